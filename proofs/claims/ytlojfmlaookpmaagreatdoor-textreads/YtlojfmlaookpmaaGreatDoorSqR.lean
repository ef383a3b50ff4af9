/- Texts of mine, one behind the other: TextRf7, RunesRRev, RunesREsc, RunesRUnq, TextRdC. -/
import Derived.Test.YtlojfmlaookpmaaGreatDoorSqQ
import Derived.Test.YtlojfmlaookpmaaGreatDoorSqF
import Derived.Test.YtlojfmlaookpmaaGreatDoorSqO
import Derived.Test.YtlojfmlaookpmaaGreatDoorSqK
import Derived.Laws.AppendOwn
import Derived.Test.YtlojfmlaookpmaaGreatDoorSqL
import Derived.Test.YtlojfmlaookpmaaGreatDoorSqM
import Derived.Test.YtlojfmlaookpmaaGreatDoorSqP
import Derived.Deep.AppendLies
set_option linter.unusedSimpArgs false
set_option linter.unusedVariables false
set_option maxRecDepth 2000
namespace Go.Proofs.YtlojfmlaookpmaaGreatDoor
open Go.ChangeShapes Go.WideShapes Go.ChangeAt Go.RowKit Go.Shelf
def ItR (H : Nat) (v : Value) (l : List Tm) (w : World) : Prop := ∃ xs, w.ownsRow H 27 7 v l.length xs ∧ RC (Zq H v w) w l xs
theorem ItR.kpt {H g : Nat} {v : Value} {l : List Tm} {w w' : World} (h : ItR H v l w) (k : Kpt (fun b => b = g) w w') (hg : g < H) : ItR H v l w' := by
 obtain ⟨xs, hO, hR⟩ := h
 have hb := own_blk7 hO
 refine ⟨xs, own_blkS hO (fun j hj => k.block j (hb j hj).2 (fun e => by have := (hb j hj).1; omega)), ?_⟩
 exact RC.mono (fun j _ hz => ⟨hz.1, Nat.lt_of_lt_of_le hz.2.1 k.size, hz.2.2⟩) (hR.zs (fun j hj => k.block j hj.2.1 (fun e => by have := hj.1; omega)))
theorem ItR.tr {H c : Nat} {o : Option Addr} {l : List Tm} {w : World} (h : ItR H (.slice o l.length c) l w) : TR (Zb H w) w l o := by
 obtain ⟨xs, hO, hR⟩ := h
 exact own_trz hO (RC.mono (fun _ _ hz => ⟨hz.1, hz.2.1⟩) hR) (fun g _ h1 h2 => ⟨h1, h2⟩)
theorem ItR.one {H : Nat} {t : Tm} {w w6 : World} {xk : Int} {xneg : Bool} {xod : Option Addr} {xld xcd : Nat} {xnm : ByteArray} {xn : Int} {xol : Option Addr} {xll xcl : Nat} {xob : Option Addr} {xlb xcb : Nat}
   (hT : TV (Zb H w) w t (tmV xk xneg (.slice xod xld xcd) xnm xn (.slice xol xll xcl) (.slice xob xlb xcb))) (hH : H ≤ w.heap.size) (e6 : w6 = w.alloc (.cells #[.int .i64 xk, .bool xneg, .slice xod xld xcd, .string xnm, .int .i64 xn, .slice xol xll xcl, .slice xob xlb xcb] 27)) :
   ItR H (.slice (some ⟨w.heap.size, 0, none⟩) 1 1) [t] w6 := by
 have hcr : w6.heap[w.heap.size]? = some (.cells #[.int .i64 xk, .bool xneg, .slice xod xld xcd, .string xnm, .int .i64 xn, .slice xol xll xcl, .slice xob xlb xcb] 27 (0, 0)) := by rw [e6]; exact heap_alloc_new w _
 have b6 : Below w.heap.size w w6 := by rw [e6]; exact (Below.refl _ _).alloc (Nat.le_refl _) _
 refine ⟨[.int .i64 xk, .bool xneg, .slice xod xld xcd, .string xnm, .int .i64 xn, .slice xol xll xcl, .slice xob xlb xcb], ⟨rfl, .inr ⟨w.heap.size, 1, _, rfl, hH, hcr, Nat.le_refl _, by unfold maxLen; omega, rfl, rfl⟩⟩, ?_⟩
 have h2 : RC (Zq H (.slice (some ⟨w.heap.size, 0, none⟩) 1 1) w6) w6 ([] ++ [t]) ([] ++ [.int .i64 xk, .bool xneg, .slice xod xld xcd, .string xnm, .int .i64 xn, .slice xol xll xcl, .slice xob xlb xcb]) :=
   RC.snoc (TV.mono (fun k _ hz => ⟨hz.1, Nat.lt_of_lt_of_le hz.2 b6.size, by simp only [Value.ownBlock, ne_eq, Option.some.injEq]; have := hz.2; omega⟩) _ _ (TV.zs (fun k hk => b6.block k hk.2) _ _ hT)) rfl
 exact h2
theorem ItR.snoc {H g g2 cap2 : Nat} {o : Option Addr} {c : Nat} {l : List Tm} {t : Tm} {xs : List Value} {wr w w6 w7 : World} {xk : Int} {xneg : Bool} {xod : Option Addr} {xld xcd : Nat} {xnm : ByteArray} {xn : Int} {xol : Option Addr} {xll xcl : Nat} {xob : Option Addr} {xlb xcb : Nat}
   (hO : wr.ownsRow H 27 7 (.slice o l.length c) l.length xs) (hRC : RC (Zq H (.slice o l.length c) wr) wr l xs) (hg : g < H) (hH : H ≤ wr.heap.size) (k : Kpt (fun b => b = g) wr w)
   (hT : TV (Zb wr.heap.size w) w t (tmV xk xneg (.slice xod xld xcd) xnm xn (.slice xol xll xcl) (.slice xob xlb xcb))) (b6 : Below w.heap.size w w6)
   (hgr : w6.grownBy w7 (Value.ownBlock (.slice o l.length c))) (hg2 : Value.ownBlock (.slice o l.length c) = some g2 ∨ g2 = w6.heap.size)
   (hown : w7.ownsRow H 27 7 (.slice (some ⟨g2, 0, none⟩) (l.length + 1) cap2) (l.length + 1) (xs ++ [.int .i64 xk, .bool xneg, .slice xod xld xcd, .string xnm, .int .i64 xn, .slice xol xll xcl, .slice xob xlb xcb])) :
   ItR H (.slice (some ⟨g2, 0, none⟩) (l ++ [t]).length cap2) (l ++ [t]) w7 := by
 have hown' := own_blk7 hO
 have hs := k.size
 have hs2 := hgr.size
 have hs3 := b6.size
 have hg2' : ∀ j, Zq H (.slice o l.length c) wr j → g2 ≠ j := fun j hj e => by
   rcases hg2 with h | h
   · exact hj.2.2 (by rw [h, e])
   · have := hj.2.1; omega
 have e1 : (l ++ [t]).length = l.length + 1 := by simp
 rw [e1]
 refine ⟨_, by rw [e1]; exact hown, ?_⟩
 have hz1 : Zs (Zq H (.slice o l.length c) wr) wr w7 := fun j hj => ((hgr.block j (by have := hj.2.1; omega) (fun e => hj.2.2 e.symm)).trans (b6.block j (by have := hj.2.1; omega))).trans (k.block j hj.2.1 (fun e => by have := hj.1; omega))
 have hz2 : Zs (Zb wr.heap.size w) w w7 := fun j hj => (hgr.block j (by have := hj.2; omega) (fun e => by have := (hown' j e.symm).2; have := hj.1; omega)).trans (b6.block j hj.2)
 refine RC.snoc (TV.mono (fun j hj hz => ⟨by have := hz.1; omega, hj, ?_⟩) _ _ (TV.zs hz2 _ _ hT)) (RC.mono (fun j hj hz => ⟨hz.1, hj, ?_⟩) (hRC.zs hz1))
 · simp only [Value.ownBlock, ne_eq, Option.some.injEq]
   intro e
   rcases hg2 with h | h
   · have := (hown' g2 h).2; have := hz.1; omega
   · have := hz.2; omega
 · simp only [Value.ownBlock, ne_eq, Option.some.injEq]
   exact hg2' j hz
set_option maxHeartbeats 2000000 in
theorem rnumber_w (g : Nat) (s : List UInt8) (i n : Nat) (most : Int) (hs : s.length ≤ 65536) (hi : i ≤ s.length) (w : World) (h : RRf g s i false n w) :
   Calls Tryz.prog 33 #[.pointer (some ⟨g, 0, none⟩), .int .i64 most] w fun e w' => e = .returned (.int .i64 (nmN most ((s.drop i).takeWhile digB))) ∧ RRf g s (i + ((s.drop i).takeWhile digB).length) (!nmB most ((s.drop i).takeWhile digB)) n w' ∧ Kpt (fun b => b = g) w w' := by
 have c1 := run_w g s i false n hs hi w h
 have hDl : ((s.drop i).takeWhile digB).length ≤ 1000000 := Nat.le_trans (List.takeWhile_prefix digB).length_le (by rw [List.length_drop]; omega)
 generalize (s.drop i).takeWhile digB = D at *
 obtain ⟨j, hj⟩ : ∃ j, i + D.length = j := ⟨_, rfl⟩
 rw [hj] at c1
 rw [hj]
 obtain ⟨RN, hRN⟩ : ∃ RN, nmN most D = RN := ⟨_, rfl⟩
 obtain ⟨RB, hRB⟩ : ∃ RB, nmB most D = RB := ⟨_, rfl⟩
 rw [hRN, hRB]
 have c2 := fun w' => rparse_w D w' hDl
 rw [show (⟨D.toArray⟩ : ByteArray) = bs D from rfl] at c2
 obtain ⟨E, hE⟩ : ∃ E, pE D = E := ⟨_, rfl⟩
 obtain ⟨Z, hZ⟩ : ∃ Z, pZ D = Z := ⟨_, rfl⟩
 rw [hE, hZ] at c2
 obtain ⟨SN, hSN⟩ : ∃ SN, smlN Z = SN := ⟨_, rfl⟩
 obtain ⟨SB, hSB⟩ : ∃ SB, smlB Z = SB := ⟨_, rfl⟩
 have hB : Hid (RB = (E == 0 && SB && decide (SN ≤ most))) := hid (by rw [← hRB, nmB, hE, hZ, hSN, hSB])
 have hN : Hid (RN = if RB then SN else 0) := hid (by rw [← hRN, nmN, hRB, hZ, hSN])
 have hSH := hid (And.intro hSN hSB)
 clear hRN hRB hE hZ hSN hSB hDl h hj hi hs
 go_enter Tryz.func33, Tryz.ntmps33
 go_wp2_with fail
 refine c1.mono ?_
 rintro e w1 ⟨rfl, h1, k1⟩
 go_wp2_with fail
 refine (c2 w1).mono ?_
 rintro e w2 ⟨v2, rfl, hC, b2⟩
 obtain ⟨b, o, n2, c, rfl⟩ := hC.shape
 have kc := Box.new w2 (.bool b) (.slice o n2 c) 68
 obtain ⟨W, hW⟩ : ∃ W, W = w2.alloc (.cells #[.bool b, .slice o n2 c] 68) := ⟨_, rfl⟩
 rw [← hW] at kc
 have bA : Below w2.heap.size w2 W := by rw [hW]; exact (Below.refl _ w2).alloc (Nat.le_refl _) _
 have bW : Below w1.heap.size w1 W := b2.trans (below_le bA b2.size)
 have hKW := hid (k1.trans (Kpt.of_below (F := fun b => b = g) bW))
 have hRW := hid (h1.below bW)
 have c3 := rsmall_w _ Z 64 W (by omega) (hC.isN.below bA)
 rw [hSH.out.1, hSH.out.2] at c3
 obtain ⟨kc0, kc1, kc2, kc3⟩ := id kc
 have hWH := hid hW
 clear hW hC c1 c2 h1 k1 b2 bA kc
 go_upto_region 3 with fail
 rw [← hWH.out]
 go_wp2_with fail
 refine c3.mono ?_
 rintro e w3 ⟨rfl, b3⟩
 have hRR := hid (hRW.out.below b3)
 have hKK := hid (hKW.out.trans (Kpt.of_below b3))
 have hR4 := hid (hRR.out.set2 true)
 have hK4 := hid (hKK.out.trans (Kpt.of_set (F := fun b => b = g) w3 (p := ⟨g, 2, none⟩) rfl (.bool true)))
 obtain ⟨y0, y1, y2, y3, f1, f2, f3⟩ := hRR.out.cells
 clear c3 kc0 kc1 kc2 kc3
 by_cases hE0 : E = 0
 · subst hE0
   have hBx : Hid (RB = (SB && decide (SN ≤ most))) := hid (by rw [hB.out]; rfl)
   cases SB with
   | false =>
     have q1 : RB = false := by rw [hBx.out]; rfl
     have q2 : RN = 0 := by rw [hN.out, q1]; rfl
     subst q1 q2
     go_wp2
     go_ret
     exact ⟨rfl, hR4.out, hK4.out⟩
   | true =>
     by_cases hm : SN ≤ most
     · have q1 : RB = true := by rw [hBx.out]; simp [hm]
       have q2 : RN = SN := by rw [hN.out, q1]; rfl
       have hm2 : ¬ most < SN := by omega
       subst q1 q2
       go_wp2
       go_ret
       exact ⟨rfl, hRR.out, hKK.out⟩
     · have q1 : RB = false := by rw [hBx.out]; simp [hm]
       have q2 : RN = 0 := by rw [hN.out, q1]; rfl
       have hm2 : most < SN := by omega
       subst q1 q2
       go_wp2
       go_ret
       exact ⟨rfl, hR4.out, hK4.out⟩
 · have hn : (E != 0) = true := by simp [hE0]
   have q1 : RB = false := by rw [hB.out]; simp [hE0]
   have q2 : RN = 0 := by rw [hN.out, q1]; rfl
   subst q1 q2
   go_wp2
   go_ret
   exact ⟨rfl, hR4.out, hK4.out⟩
theorem info32 : (Tryz.prog.info? 21).map (fun i => (i.zero, i.size, i.bytes)) = some (some (.int .i32 0), 1, 4) := by kernel_rfl
def OwnR (B : Nat) (v : Value) (rs : List Nat) (w : World) : Prop := w.ownsRow B 21 1 v rs.length (rs.map fun (r : Nat) => Value.int .i32 (r : Int))
theorem OwnR.nil (B : Nat) (w : World) : OwnR B (.slice none 0 0) [] w := World.ownsRow_nil _ _ _ _
theorem OwnR.shape {B : Nat} {v : Value} {rs : List Nat} {w : World} (h : OwnR B v rs w) : ∃ ao cap, v = .slice ao rs.length cap := by
 rcases h.2 with ⟨hv, h0⟩ | ⟨g, cap, cur, hv, _⟩
 · exact ⟨none, 0, by rw [hv, h0]⟩
 · exact ⟨_, _, hv⟩
theorem OwnR.drewN {B : Nat} {v : Value} {rs : List Nat} {w : World} (h : OwnR B v rs w) (n : Nat) : OwnR B v rs (w.drewN n) := by
 have hh : ∀ n, (w.drewN n).heap = w.heap := by
   intro n
   induction n with
   | zero => rfl
   | succ n ih => exact ih
 refine ⟨h.1, ?_⟩
 rcases h.2 with hn | ⟨g, cap, cur, hv, hb, hg, rest⟩
 · exact .inl hn
 · exact .inr ⟨g, cap, cur, hv, hb, by rw [hh]; exact hg, rest⟩
theorem OwnR.below {B : Nat} {v : Value} {rs : List Nat} {w w' : World} (h : OwnR B v rs w) (hb : Below w.heap.size w w') : OwnR B v rs w' := by
 refine ⟨h.1, ?_⟩
 rcases h.2 with hn | ⟨g, cap, cur, hv, hbg, hg, rest⟩
 · exact .inl hn
 · exact .inr ⟨g, cap, cur, hv, hbg, (hb.block g (lt_of_heap hg)).trans hg, rest⟩
theorem OwnR.string {B : Nat} {v : Value} {rs : List Nat} {w : World} (h : OwnR B v rs w) (ho : okRs rs) : (convert 112 9 v).run Tryz.prog w = .ok (.string ⟨(en rs).toArray⟩) w := by
 rcases id h.2 with ⟨hv, h0⟩ | ⟨g, cap, cur, hv, hb, hg, hnc, hcm, hcs, htake⟩
 · have : rs = [] := List.eq_nil_of_length_eq_zero h0
   subst this
   rw [hv, run_convert_runes_nil w 112 9 21 0 0 Tryz.underlying112 Tryz.underlying21 Tryz.underlying9]
   rfl
 · rw [hv]
   refine string_of_runes g rs.length cap rs w ho ?_ rfl
   intro j r hj
   rw [Lib.cell_of_heap hg, ← Array.getElem?_toList]
   have hj' : j < rs.length := (List.getElem?_eq_some_iff.1 hj).1
   have := congrArg (·[j]?) htake
   simp only [List.getElem?_take, List.getElem?_map, hj, Option.map_some, Nat.mul_one, if_pos hj'] at this
   exact this
theorem rhex_w (r : Nat) (w : World) (hr : r ≤ 1114111) :
   Calls Tryz.prog 126 #[.int .i32 (r : Int)] w fun e w' => e = .returned (.int .i64 (if digV r = 16 then -1 else (digV r : Int))) ∧ w = w' := by
 obtain ⟨D, hD⟩ : ∃ D, digV r = D := ⟨_, rfl⟩
 rw [hD]
 unfold digV at hD
 by_cases h1 : 48 ≤ r ∧ r ≤ 57
 · rw [if_pos h1] at hD
   have a1 : (48 : Int) ≤ (r : Int) := by omega
   have a2 : (r : Int) ≤ 57 := by omega
   have e1 : ¬ D = 16 := by omega
   have e2 : (r : Int) - 48 = (D : Int) := by omega
   rw [if_neg e1]
   go_enter Tryz.func126, Tryz.ntmps126
   go_wp2
   all_goals go_ret
   all_goals exact ⟨rfl, rfl⟩
 · rw [if_neg h1] at hD
   by_cases h2 : 97 ≤ r ∧ r ≤ 102
   · rw [if_pos h2] at hD
     have a1 : (97 : Int) ≤ (r : Int) := by omega
     have a2 : (r : Int) ≤ 102 := by omega
     have a3 : (57 : Int) < (r : Int) := by omega
     have e1 : ¬ D = 16 := by omega
     have e2 : (r : Int) - 97 + 10 = (D : Int) := by omega
     rw [if_neg e1]
     go_enter Tryz.func126, Tryz.ntmps126
     go_wp2
     all_goals go_ret
     all_goals exact ⟨rfl, rfl⟩
   · rw [if_neg h2] at hD
     by_cases h3 : 65 ≤ r ∧ r ≤ 70
     · rw [if_pos h3] at hD
       have a1 : (65 : Int) ≤ (r : Int) := by omega
       have a2 : (r : Int) ≤ 70 := by omega
       have a3 : (57 : Int) < (r : Int) := by omega
       have a4 : ¬ (97 : Int) ≤ (r : Int) := by omega
       have e1 : ¬ D = 16 := by omega
       have e2 : (r : Int) - 65 + 10 = (D : Int) := by omega
       rw [if_neg e1]
       go_enter Tryz.func126, Tryz.ntmps126
       go_wp2
       all_goals go_ret
       all_goals exact ⟨rfl, rfl⟩
     · rw [if_neg h3] at hD
       subst hD
       rw [if_pos rfl]
       go_enter Tryz.func126, Tryz.ntmps126
       go_wp2
       all_goals first
         | (exfalso; omega)
         | (go_ret; exact ⟨rfl, rfl⟩)
def EscSpec (X : List Nat) (at0 r at1 er : Nat) : Prop :=
 (er = 0 ∧ okR r ∧ at0 < at1 ∧ at1 ≤ X.length ∧ (∀ out num dig, out.length < 255 → ∃ n d, runQ 255 1 out num dig (X.drop at0) = runQ 255 0 (out ++ [r]) n d (X.drop at1)) ∧ ∀ out num dig, out.length = 255 → runQ 255 1 out num dig (X.drop at0) = (3, [], [])) ∨
 (er ≠ 0 ∧ ∀ out num dig, runQ 255 1 out num dig (X.drop at0) = (er, [], []))
theorem sdrop_at {X : List Nat} {k r : Nat} (h : X[k]? = some r) : X.drop k = r :: X.drop (k + 1) := by
 obtain ⟨hk, hr⟩ := List.getElem?_eq_some_iff.1 h
 rw [List.drop_eq_getElem_cons hk, hr]
theorem esc_simple (X : List Nat) (k r c : Nat) (hX : X[k]? = some c) (hok : okR r) (he : ∀ out num dig, escQ 255 out num dig c = addQ 255 out num dig r) : EscSpec X k r (k + 1) 0 := by
 have hk : k < X.length := (List.getElem?_eq_some_iff.1 hX).1
 refine Or.inl ⟨rfl, hok, by omega, by omega, ?_, ?_⟩
 · intro out num dig hl
   refine ⟨num, dig, ?_⟩
   rw [sdrop_at hX]
   exact runQ_step 255 1 out num dig c _ 0 (out ++ [r]) num dig (by omega) (by
     unfold takeQ; rw [if_pos rfl, he, addQ_ok _ _ _ _ _ hl])
 · intro out num dig hl
   have ht : takeQ 255 1 out num dig c = (3, 0, out, num, dig) := by
     unfold takeQ; rw [if_pos rfl, he]; unfold addQ; rw [if_pos hl]
   rw [sdrop_at hX, runQ_bad 255 1 out num dig c _ (by omega) (by rw [ht]; simp), ht]
theorem digV_le (r : Nat) : digV r ≤ 16 := by
 unfold digV
 split
 · omega
 · split
   · omega
   · split <;> omega
set_option maxHeartbeats 4000000 in
set_option maxRecDepth 100000 in
theorem escape_w (g cap at0 : Nat) (X : List Nat) (w : World) (hX : RowR g X w) (hok : okRs X) (hlen : X.length ≤ 1000000) (hat : at0 ≤ X.length) :
   Calls Tryz.prog 100 #[.slice (some ⟨g, 0, none⟩) X.length cap, .int .i64 (at0 : Int)] w fun e w' => ∃ r at1 er : Nat, e = .returned (.tuple #[.int .i32 (r : Int), .int .i64 (at1 : Int), .int .i64 (er : Int)]) ∧ Below w.heap.size w w' ∧ EscSpec X at0 r at1 er := by
 by_cases h1 : at0 < X.length
 · have h1z : ¬ (X.length : Int) ≤ (at0 : Int) := by omega
   have h1d : decide (X.length ≤ at0) = false := by simp [h1]
   obtain ⟨c, hc⟩ : ∃ c, X[at0]? = some c := ⟨X[at0], by simp [h1]⟩
   have cc := hX at0 c hc
   have hcl : c ≤ 1114111 := by have := hok c (List.mem_of_getElem? hc); unfold okR at this; omega
   by_cases c1 : c = 39 ∨ c = 92
   · have hz : ((c : Int) == 39) = true ∨ (((c : Int) == 39) = false ∧ ((c : Int) == 92) = true) := by
       rcases c1 with rfl | rfl
       · exact Or.inl rfl
       · exact Or.inr ⟨rfl, rfl⟩
     have hE : EscSpec X at0 c (at0 + 1) 0 := esc_simple X at0 c c hc (hok c (List.mem_of_getElem? hc)) (fun out num dig => by unfold escQ; rw [if_pos c1])
     clear c1
     rcases hz with hz | ⟨hz, hz2⟩
     all_goals
       go_enter Tryz.func100, Tryz.ntmps100
       go_wp2
       refine bodyPost_ret (v := .tuple #[.int .i32 (c : Int), .int .i64 ((at0 + 1 : Nat) : Int), .int .i64 ((0 : Nat) : Int)]) ?_ rfl ⟨c, at0 + 1, 0, rfl, Below.refl _ _, hE⟩
       simp [results, Tryz.results100, go_sem]
   · have a1 : ((c : Int) == 39) = false := by simp; omega
     have a2 : ((c : Int) == 92) = false := by simp; omega
     by_cases c2 : c = 110
     · have a3 : ((c : Int) == 110) = true := by subst c2; rfl
       have hE : EscSpec X at0 10 (at0 + 1) 0 := esc_simple X at0 10 c hc (okR_ascii (by decide)) (fun out num dig => by unfold escQ; rw [if_neg c1, if_pos c2])
       clear c1 c2
       go_enter Tryz.func100, Tryz.ntmps100
       go_wp2
       refine bodyPost_ret (v := .tuple #[.int .i32 ((10 : Nat) : Int), .int .i64 ((at0 + 1 : Nat) : Int), .int .i64 ((0 : Nat) : Int)]) ?_ rfl ⟨10, at0 + 1, 0, rfl, Below.refl _ _, hE⟩
       simp [results, Tryz.results100, go_sem]
     · have a3 : ((c : Int) == 110) = false := by simp; omega
       by_cases c3 : c = 120
       · have a4 : ((c : Int) == 120) = true := by subst c3; rfl
         have hstart : Hid (∀ out num dig, runQ 255 1 out num dig (X.drop at0) = runQ 255 2 out 0 0 (X.drop (at0 + 1))) := hid (fun out num dig => by
           rw [sdrop_at hc]
           exact runQ_step 255 1 out num dig c _ 2 out 0 0 (by omega) (by unfold takeQ escQ; rw [if_pos rfl, if_neg c1, if_neg c2, if_pos c3]))
         clear c1 c2 c3
         go_enter Tryz.func100, Tryz.ntmps100
         go_wp2
         go_loopw [1, 7, 8] (fun a n k wr => ∃ (p num dig : Nat), a = .int .i64 (p : Int) ∧ n = .int .i64 (num : Int) ∧ k = .int .i64 (dig : Int) ∧ wr = w ∧ at0 < p ∧ p ≤ X.length ∧ num < 16 ^ dig ∧ dig ≤ 6 ∧ Hid (∀ out n0 d0, runQ 255 1 out n0 d0 (X.drop at0) = runQ 255 2 out num dig (X.drop p))) (fun a _ _ _ => X.length - (intOf a).toNat)
         case atStart => exact ⟨at0 + 1, 0, 0, by go_num, rfl, rfl, rfl, by omega, by omega, by simp, by omega, hid hstart.out⟩
         case round =>
           obtain ⟨p, num, dig, rfl, rfl, rfl, rfl, hp0, hpl, hnum, hdig, hH⟩ := hrel
           have hn6 := pow16_le hnum hdig
           by_cases hp : p < X.length
           · have hpz : (p : Int) < (X.length : Int) := by omega
             obtain ⟨d, hd⟩ : ∃ d, X[p]? = some d := ⟨X[p], by simp [hp]⟩
             have cd := hX p d hd
             have hdl : d ≤ 1114111 := by have := hok d (List.mem_of_getElem? hd); unfold okR at this; omega
             have ch := rhex_w d wr hdl
             by_cases hx : digV d = 16
             · rw [if_pos hx] at ch
               have hlz : ¬ (X.length : Int) ≤ (p : Int) := by omega
               have hw32 : IntKind.i32.wrap (num : Int) = (num : Int) := by rw [IntKind.wrap_i32]; omega
               by_cases hk0 : dig = 0
               · have k0z : ((dig : Int) == 0) = true := by rw [hk0]; rfl
                 have hbad : EscSpec X at0 0 p 4 := Or.inr ⟨by decide, fun out n0 d0 => by
                   have ht : takeQ 255 2 out num dig d = (4, 2, out, num, dig) := by
                     unfold takeQ numQ; rw [if_neg (by omega), if_pos rfl]
                     by_cases h59 : d = 59
                     · rw [if_pos h59, if_pos (Or.inl hk0)]
                     · rw [if_neg h59, if_pos (Or.inl hx)]
                   rw [hH.out, sdrop_at hd, runQ_bad 255 2 out num dig d _ (by omega) (by rw [ht]; simp), ht]⟩
                 clear hx hk0
                 go_wp2_with fail
                 refine ch.mono ?_
                 rintro e w1 ⟨rfl, rfl⟩
                 go_wp2
                 refine bodyPost_ret (v := .tuple #[.int .i32 ((0 : Nat) : Int), .int .i64 (p : Int), .int .i64 ((4 : Nat) : Int)]) ?_ rfl ⟨0, p, 4, rfl, Below.refl _ _, hbad⟩
                 simp [results, Tryz.results100, go_sem]
               · have k0z : ((dig : Int) == 0) = false := by simp; omega
                 by_cases h59 : d = 59
                 · have d59 : ((d : Int) != 59) = false := by rw [h59]; rfl
                   cases hvr : vR num with
                   | false =>
                     have cv := validRune_w (num : Int) wr
                     rw [show Lib.validRune (num : Int) = false from hvr] at cv
                     have hbad : EscSpec X at0 0 p 4 := Or.inr ⟨by decide, fun out n0 d0 => by
                       have ht : takeQ 255 2 out num dig d = (4, 2, out, num, dig) := by
                         unfold takeQ numQ; rw [if_neg (by omega), if_pos rfl, if_pos h59, if_pos (Or.inr hvr)]
                       rw [hH.out, sdrop_at hd, runQ_bad 255 2 out num dig d _ (by omega) (by rw [ht]; simp), ht]⟩
                     clear hx hk0 h59 hnum hdig hn6 hdl hcl hat h1 h1d hp0 hpl hvr
                     go_wp2_with fail
                     refine ch.mono ?_
                     rintro e w1 ⟨rfl, rfl⟩
                     go_wp2_with fail
                     refine cv.mono ?_
                     rintro e w1 ⟨rfl, rfl⟩
                     go_wp2
                     refine bodyPost_ret (v := .tuple #[.int .i32 ((0 : Nat) : Int), .int .i64 (p : Int), .int .i64 ((4 : Nat) : Int)]) ?_ rfl ⟨0, p, 4, rfl, Below.refl _ _, hbad⟩
                     simp [results, Tryz.results100, go_sem]
                   | true =>
                     have cv := validRune_w (num : Int) wr
                     rw [show Lib.validRune (num : Int) = true from hvr] at cv
                     have hokn : okR num := by
                       unfold vR Lib.validRune at hvr
                       simp at hvr; unfold okR; omega
                     have hgood : EscSpec X at0 num (p + 1) 0 := Or.inl ⟨rfl, hokn, by omega, by omega, fun out n0 d0 hl => ⟨num, dig, by
                         rw [hH.out, sdrop_at hd]
                         exact runQ_step 255 2 out num dig d _ 0 (out ++ [num]) num dig (by omega) (by
                           unfold takeQ numQ; rw [if_neg (by omega), if_pos rfl, if_pos h59, if_neg (by simp [hk0, hvr]), addQ_ok _ _ _ _ _ hl])⟩, fun out n0 d0 hl => by
                         have ht : takeQ 255 2 out num dig d = (3, 0, out, num, dig) := by
                           unfold takeQ numQ; rw [if_neg (by omega), if_pos rfl, if_pos h59, if_neg (by simp [hk0, hvr])]; unfold addQ; rw [if_pos hl]
                         rw [hH.out, sdrop_at hd, runQ_bad 255 2 out num dig d _ (by omega) (by rw [ht]; simp), ht]⟩
                     clear hx hk0 h59 hnum hdig hn6 hdl hcl hat h1 h1d hp0 hpl hvr
                     go_wp2_with fail
                     refine ch.mono ?_
                     rintro e w1 ⟨rfl, rfl⟩
                     go_wp2_with fail
                     refine cv.mono ?_
                     rintro e w1 ⟨rfl, rfl⟩
                     go_wp2
                     refine bodyPost_ret (v := .tuple #[.int .i32 (num : Int), .int .i64 ((p + 1 : Nat) : Int), .int .i64 ((0 : Nat) : Int)]) ?_ rfl ⟨num, p + 1, 0, rfl, Below.refl _ _, hgood⟩
                     simp [results, Tryz.results100, go_sem]
                 · have d59 : ¬ (d : Int) = 59 := by omega
                   have hbad : EscSpec X at0 0 p 4 := Or.inr ⟨by decide, fun out n0 d0 => by
                     have ht : takeQ 255 2 out num dig d = (4, 2, out, num, dig) := by
                       unfold takeQ numQ; rw [if_neg (by omega), if_pos rfl, if_neg h59, if_pos (Or.inl hx)]
                     rw [hH.out, sdrop_at hd, runQ_bad 255 2 out num dig d _ (by omega) (by rw [ht]; simp), ht]⟩
                   clear hx hk0 h59 hw32 hnum hdig hn6 hdl hcl hlen hat h1 h1d hp0 hpl
                   go_wp2_with fail
                   refine ch.mono ?_
                   rintro e w1 ⟨rfl, rfl⟩
                   go_wp2
                   refine bodyPost_ret (v := .tuple #[.int .i32 ((0 : Nat) : Int), .int .i64 (p : Int), .int .i64 ((4 : Nat) : Int)]) ?_ rfl ⟨0, p, 4, rfl, Below.refl _ _, hbad⟩
                   simp [results, Tryz.results100, go_sem]
             · rw [if_neg hx] at ch
               have hd16 : digV d < 16 := by have := digV_le d; omega
               have h59 : d ≠ 59 := fun e => hx (by rw [e]; decide)
               obtain ⟨v, hv⟩ : ∃ v, digV d = v := ⟨_, rfl⟩
               by_cases h6 : dig = 6
               · have hbad : EscSpec X at0 0 p 4 := Or.inr ⟨by decide, fun out n0 d0 => by
                   have ht : takeQ 255 2 out num dig d = (4, 2, out, num, dig) := by
                     unfold takeQ numQ; rw [if_neg (by omega), if_pos rfl, if_neg h59, if_pos (Or.inr h6)]
                   rw [hH.out, sdrop_at hd, runQ_bad 255 2 out num dig d _ (by omega) (by rw [ht]; simp), ht]⟩
                 rw [hv] at ch hd16
                 have h6z : (6 : Int) < (dig : Int) + 1 := by omega
                 clear hx h6
                 go_wp2_with fail
                 refine ch.mono ?_
                 rintro e w1 ⟨rfl, rfl⟩
                 go_wp2_with fail
                 refine ch.mono ?_
                 rintro e w1 ⟨rfl, rfl⟩
                 go_wp2
                 refine bodyPost_ret (v := .tuple #[.int .i32 ((0 : Nat) : Int), .int .i64 (p : Int), .int .i64 ((4 : Nat) : Int)]) ?_ rfl ⟨0, p, 4, rfl, Below.refl _ _, hbad⟩
                 simp [results, Tryz.results100, go_sem]
               · have hstep : Hid (∀ out n0 d0, runQ 255 1 out n0 d0 (X.drop at0) = runQ 255 2 out (num * 16 + v) (dig + 1) (X.drop (p + 1))) := hid (fun out n0 d0 => by
                   rw [hH.out, sdrop_at hd]
                   exact runQ_step 255 2 out num dig d _ 2 out (num * 16 + v) (dig + 1) (by omega) (by
                     unfold takeQ numQ; rw [if_neg (by omega), if_pos rfl, if_neg h59, if_neg (by simp [hx, h6]), hv]))
                 rw [hv] at ch hd16
                 have hpow : num * 16 + v < 16 ^ (dig + 1) := by rw [Nat.pow_succ]; omega
                 have h6z : ¬ (6 : Int) < (dig : Int) + 1 := by omega
                 clear hx
                 go_wp2_with fail
                 refine ch.mono ?_
                 rintro e w1 ⟨rfl, rfl⟩
                 go_wp2_with fail
                 refine ch.mono ?_
                 rintro e w1 ⟨rfl, rfl⟩
                 go_wp2
                 go_roundw
                 case rel => exact ⟨p + 1, num * 16 + v, dig + 1, by go_num, by (congr 1; omega), by go_num, trivial, by omega, by omega, hpow, by omega, hid hstep.out⟩
                 case measure => (simp [intOf]; try omega)
           · have hpz : ¬ (p : Int) < (X.length : Int) := by omega
             have hpz2 : (X.length : Int) ≤ (p : Int) := by omega
             have hbad : EscSpec X at0 0 p 2 := Or.inr ⟨by decide, fun out n0 d0 => by
               rw [hH.out, List.drop_eq_nil_of_le (by omega)]; rfl⟩
             go_wp2
             refine bodyPost_ret (v := .tuple #[.int .i32 ((0 : Nat) : Int), .int .i64 (p : Int), .int .i64 ((2 : Nat) : Int)]) ?_ rfl ⟨0, p, 2, rfl, Below.refl _ _, hbad⟩
             simp [results, Tryz.results100, go_sem]
       · have a4 : ((c : Int) == 120) = false := by simp; omega
         have hbad : EscSpec X at0 0 at0 4 := Or.inr ⟨by decide, fun out num dig => by
           have ht : takeQ 255 1 out num dig c = (4, 1, out, num, dig) := by
             unfold takeQ escQ; rw [if_pos rfl, if_neg c1, if_neg c2, if_neg c3]
           rw [sdrop_at hc, runQ_bad 255 1 out num dig c _ (by omega) (by rw [ht]; simp), ht]⟩
         go_enter Tryz.func100, Tryz.ntmps100
         go_wp2
         refine bodyPost_ret (v := .tuple #[.int .i32 ((0 : Nat) : Int), .int .i64 (at0 : Int), .int .i64 ((4 : Nat) : Int)]) ?_ rfl ⟨0, at0, 4, rfl, Below.refl _ _, hbad⟩
         simp [results, Tryz.results100, go_sem]
 · have h1z : (X.length : Int) ≤ (at0 : Int) := by omega
   have hbad : EscSpec X at0 0 at0 2 := Or.inr ⟨by decide, fun out num dig => by rw [List.drop_eq_nil_of_le (by omega)]; rfl⟩
   go_enter Tryz.func100, Tryz.ntmps100
   go_wp2
   refine bodyPost_ret (v := .tuple #[.int .i32 ((0 : Nat) : Int), .int .i64 (at0 : Int), .int .i64 ((2 : Nat) : Int)]) ?_ rfl ⟨0, at0, 2, rfl, Below.refl _ _, hbad⟩
   simp [results, Tryz.results100, go_sem]
theorem pre39 (X : List Nat) (h : okRs X) : Lib.hasPrefix (en X) [39] = decide (X.head? = some 39) := by
 cases X with
 | nil => rfl
 | cons r t =>
   have ho := (okRs_cons h).1
   unfold okR at ho
   show ([39] : List UInt8).isPrefixOf (e1 r ++ en t) = _
   by_cases h39 : r = 39
   · subst h39; rw [e1_39]; rfl
   · have hne : ∀ x u, e1 r = x :: u → (39 : UInt8) ≠ x := by
       intro x u he hx
       have hd := decode_e1 r (okRs_cons h).1 []
       rw [List.append_nil, he, ← hx, Lib.decodeL_ascii 39 u (by decide)] at hd
       exact h39 (by simpa using (congrArg Prod.fst hd).symm)
     cases he : e1 r with
     | nil => exact absurd he (e1_ne r)
     | cons x u =>
       have := hne x u he
       show ([39] : List UInt8).isPrefixOf (x :: (u ++ en t)) = _
       rw [List.isPrefixOf, show ((39 : UInt8) == x) = false by simp [this]]
       simp [h39]
theorem runes_conv' (s : ByteArray) (w : World) (hs : s.size ≤ 1000000) :
   ∃ cap W, (convert 9 112 (.string s)).run Tryz.prog w = .ok (.slice (some ⟨w.heap.size, 0, none⟩) (sg s.data.toList).length cap) W ∧ Below w.heap.size w W ∧ RowR w.heap.size (sg s.data.toList) W ∧ W.heap.size = w.heap.size + 1 ∧ (sg s.data.toList).length ≤ cap := by
 obtain ⟨cap, W, h1, h2, h3, h4⟩ := runes_conv s w hs
 refine ⟨cap, W, h1, h2, h3, h4, ?_⟩
 have e : Conv.runesFrom s s.size 0 #[] = ((sg s.data.toList).map fun (r : Nat) => Value.int .i32 (r : Int)).toArray := by
   rw [runesFrom_eq s s.size 0 #[] (by omega)]; simp
 have hle := sg_le s.data.toList
 have hsz : s.data.toList.length = s.size := rfl
 have hr := run_runes_of_string (P := Tryz.prog) w 9 112 21 s Tryz.underlying9 Tryz.underlying112 Tryz.underlying21 (by rw [e]; simp; omega)
 rw [e] at hr
 simp only [List.size_toArray, List.length_map] at hr
 rw [h1] at hr
 have hc : cap = grownCap w (sg s.data.toList).length 0 21 := by
   injection hr with hv _
   injection hv with _ _ hcap
 rw [hc]
 exact grownCap_ge _ _ _ _
set_option maxHeartbeats 4000000 in
set_option maxRecDepth 100000 in
theorem runquote_w (s : ByteArray) (w : World) (hs : s.size ≤ 1000000) (hT : TabsQ w) :
   Calls Tryz.prog 69 #[.string s] w fun e w' => e = .returned (val3 (unqQ s.data.toList)) ∧ Below w.heap.size w w' := by
 obtain ⟨Z, hZ⟩ : ∃ Z, unqQ s.data.toList = Z := ⟨_, rfl⟩
 rw [hZ]
 unfold unqQ at hZ
 cases hv : Lib.validD s.data.toList with
 | false =>
   rw [hv, if_neg (by simp)] at hZ
   go_enter Tryz.func69, Tryz.ntmps69
   go_wp2_with fail
   refine (rvalid_w s _ (by omega) hT.1).mono ?_
   rintro e w1 ⟨rfl, b1⟩
   go_wp2
   refine bodyPost_ret (v := val3 (4, [], 0)) ?_ rfl ⟨?_, b1⟩
   · simp [results, Tryz.results69, go_sem, val3]
   · rw [← hZ]
 | true =>
   rw [hv, if_pos rfl] at hZ
   have hok := okRs_sg s.data.toList
   have eX := en_of_valid hv
   have hle := sg_le s.data.toList
   have hz : s.data.toList.length = s.size := rfl
   have hpre := pre39 (sg s.data.toList) hok
   rw [eX] at hpre
   rw [hpre] at hZ
   go_enter Tryz.func69, Tryz.ntmps69
   go_wp2_with fail
   refine (rvalid_w s _ (by omega) hT.1).mono ?_
   rintro e w1 ⟨rfl, b1⟩
   obtain ⟨ca, W1, k1, B1, r1, z1, hcap⟩ := runes_conv' s w1 hs
   have B1' : Below w.heap.size w W1 := b1.trans (below_le B1 b1.size)
   have hZ1 : Hid (Z = if decide ((sg s.data.toList).head? = some 39) = true then quotQ s.data.toList.length (sg (s.data.toList.drop 1)) else bareQ s.data.toList) := hid hZ.symm
   have hdrop : Hid ((sg s.data.toList).head? = some 39 → sg (s.data.toList.drop 1) = (sg s.data.toList).drop 1) := hid (fun h39 => by
     cases hX : sg s.data.toList with
     | nil => rw [hX] at h39; simp at h39
     | cons r t =>
       rw [hX] at h39
       simp at h39
       subst h39
       rw [← eX, hX]
       show sg ((e1 39 ++ en t).drop 1) = t
       rw [e1_39]
       show sg (en t) = t
       rw [hX] at hok
       exact sg_en0 t (okRs_cons hok).2)
   have hbq : Hid (bareQ s.data.toList = if 255 < bareLen true (sg s.data.toList) then (3, [], 0) else if bareLen true (sg s.data.toList) = 0 then (4, [], 0) else (0, s.data.toList.take (bareLen true (sg s.data.toList)), bareLen true (sg s.data.toList))) := hid rfl
   have hsz : Hid (s.data.toList.length = (en (sg s.data.toList)).length) := hid (by rw [eX])
   clear hZ hpre eX
   generalize sg s.data.toList = X at *
   have hlt : w1.heap.size < W1.heap.size := by omega
   clear b1 B1 z1
   generalize w1.heap.size = g at *
   by_cases hX39 : X.head? = some 39
   · obtain ⟨R, hR⟩ : ∃ R, runQ 255 0 [] 0 0 (X.drop 1) = R := ⟨_, rfl⟩
     have hZq : Hid (Z = if R.1 = 0 then (0, en R.2.1, s.data.toList.length - (en R.2.2).length) else (R.1, [], 0)) := hid (by
       rw [hZ1.out, if_pos (by simp [hX39]), hdrop.out hX39]; unfold quotQ; rw [hR])
     obtain ⟨h0X, c0⟩ : 0 < X.length ∧ W1.cell? ⟨g, 0, none⟩ = some (.int .i32 39) := by
       cases hXc : X with
       | nil => rw [hXc] at hX39; simp at hX39
       | cons r t =>
         rw [hXc] at hX39
         simp at hX39
         subst hX39
         exact ⟨by simp, r1 0 39 (by rw [hXc]; rfl)⟩
     have q1 : ((X.length : Int) == 0) = false := by simp only [beq_eq_false_iff_ne, ne_eq]; omega
     obtain ⟨i0, hi, hz0, hz1, hz2⟩ := info_parts info32
     clear hX39 hZ1 hdrop hbq
     go_wp2
     go_loopw [7, 8] (fun v a wr => ∃ (k num dig : Nat) (out : List Nat), a = .int .i64 (k : Int) ∧ 1 ≤ k ∧ k ≤ X.length ∧ OwnR W1.heap.size v out wr ∧ out.length ≤ 255 ∧ okRs out ∧ Below W1.heap.size W1 wr ∧ Hid (runQ 255 0 out num dig (X.drop k) = R)) (fun _ a _ => X.length - (intOf a).toNat)
     case atStart => exact ⟨1, 0, 0, [], rfl, by omega, by omega, OwnR.nil _ _, by simp, okRs_nil, Below.refl _ _, hid hR⟩
     case round =>
       obtain ⟨k, num, dig, out, rfl, hk1, hkX, hown, hout, hoko, hbw, hH⟩ := hrel
       clear hR
       have hrow : RowR g X wr := r1.below hbw
       have sbw := hbw.size
       have BW : Below w.heap.size w wr := B1'.trans (below_le hbw B1'.size)
       obtain ⟨ao, cap, rfl⟩ := hown.shape
       by_cases hk : k < X.length
       · have hkz : (k : Int) < (X.length : Int) := by omega
         obtain ⟨r, hr⟩ : ∃ r, X[k]? = some r := ⟨X[k], by simp [hk]⟩
         have cr := hrow k r hr
         have hokr : okR r := hok r (List.mem_of_getElem? hr)
         have hrl : r ≤ 1114111 := by unfold okR at hokr; omega
         have hdr : Hid (X.drop k = r :: X.drop (k + 1)) := hid (sdrop_at hr)
         by_cases h39 : r = 39
         · have n39 : ((r : Int) != 39) = false := by rw [h39]; rfl
           have hRes : Hid (R = (0, out, X.drop (k + 1))) := hid (by rw [← hH.out, hdr.out, runQ, if_pos ⟨rfl, h39⟩])
           have hst : ∀ n, (convert 112 9 (.slice ao out.length cap)).run Tryz.prog (wr.drewN n) = .ok (.string ⟨(en out).toArray⟩) (wr.drewN n) := fun n => OwnR.string (hown.drewN n) hoko
           have hoktk : okRs (X.take (k + 1)) := fun x hx => hok x (List.mem_of_mem_take hx)
           have hst2 : ∀ n c2, (convert 112 9 (.slice (some ⟨g, 0, none⟩) (k + 1) c2)).run Tryz.prog (wr.drewN n) = .ok (.string ⟨(en (X.take (k + 1))).toArray⟩) (wr.drewN n) := fun n c2 => by
             refine string_of_runes g (k + 1) c2 (X.take (k + 1)) (wr.drewN n) hoktk (fun j x hj => ?_) (by rw [List.length_take]; omega)
             have hj2 : j < k + 1 := by have := (List.getElem?_eq_some_iff.1 hj).1; rw [List.length_take] at this; omega
             rw [List.getElem?_take, if_pos hj2] at hj
             exact r1.below (below_drewNv hbw n) j x hj
           have hlen3 : Hid (s.data.toList.length - (en (X.drop (k + 1))).length = (en (X.take (k + 1))).length) := hid (by
             have h1 := hsz.out
             rw [← List.take_append_drop (k + 1) X, en_append, List.length_append] at h1
             omega)
           have hkz3 : ¬ (X.length : Int) ≤ (k : Int) := by omega
           have hkz4 : (k : Int) + 1 ≤ (ca : Int) := by omega
           have hkz5 : (0 : Int) ≤ (k : Int) + 1 := by omega
           clear h39
           go_wp2
           go_quiet (fail)
           go_wp2
           refine bodyPost_ret (v := val3 (0, en out, (en (X.take (k + 1))).length)) ?_ rfl ⟨?_, B1'.trans (below_le (below_drewNv hbw nq) B1'.size)⟩
           · simp [results, Tryz.results69, go_sem, val3]
           · rw [hZq.out, hRes.out]
             simp only [if_true]
             rw [hlen3.out]
         · have n39 : ((r : Int) != 39) = true := by simp; omega
           by_cases h92 : r = 92
           · have n92 : ((r : Int) == 92) = true := by rw [h92]; rfl
             have hone : Hid (runQ 255 1 out num dig (X.drop (k + 1)) = R) := hid (by
               rw [← hH.out, hdr.out]
               exact (runQ_step 255 0 out num dig r _ 1 out num dig (by omega) (by
                 rw [h92]; unfold takeQ; rw [if_neg (by decide), if_neg (by decide), if_neg (by decide), if_pos rfl])).symm)
             have ce := escape_w g ca (k + 1) X wr hrow hok (by omega) (by omega)
             rw [show ((k + 1 : Nat) : Int) = (k : Int) + 1 by omega] at ce
             clear h39 h92
             go_wp2_with fail
             refine ce.mono ?_
             rintro e w2 ⟨r2, at2, er, rfl, b2, hE⟩
             have BW2 : Below w.heap.size w w2 := BW.trans (below_le b2 BW.size)
             have hown2 := hown.below b2
             have hbw2 := hbw.trans (below_le b2 sbw)
             have s2 := b2.size
             rcases hE with ⟨rfl, hok2, hlt2, hle2, hgo, hfull⟩ | ⟨hne, hbad⟩
             · by_cases hl : out.length = 255
               · have hRes : Hid (R = (3, [], [])) := hid (by rw [← hone.out, hfull _ _ _ hl])
                 have hlz : (255 : Int) ≤ (out.length : Int) := by omega
                 clear hl
                 go_wp2
                 refine bodyPost_ret (v := val3 (3, [], 0)) ?_ rfl ⟨by rw [hZq.out, hRes.out]; rfl, BW2⟩
                 simp [results, Tryz.results69, go_sem, val3]
               · have hlz : ¬ (255 : Int) ≤ (out.length : Int) := by omega
                 obtain ⟨n', d', hgo'⟩ := hgo out num dig (by omega)
                 have hgoR : Hid (runQ 255 0 (out ++ [r2]) n' d' (X.drop at2) = R) := hid (by rw [← hone.out, hgo'])
                 clear hgo' hgo hfull
                 (
                                   go_wp2_with (at_builtin; refine wpList_append_own _ rfl _ _ 112 rfl W1.heap.size 21 i0 (.int .i32 0) 1 4 Tryz.underlying112 hi hz0 hz1 hz2 rfl (by decide) _ _ _ rfl (World.ownsRow.alloc hown2 _) ⟨w2.heap.size, 0, none⟩ 1 1 [.int .i32 (r2 : Int)] rfl rfl ?c1 ?c2 ?c3 ?c4 ?c5 ?_)
                                   try (case c1 =>
                                     intro j u hj
                                     match j, hj with
                                     | 0, hj => simp at hj; subst hj; simp [Addr.add]
                                     | j + 1, hj => simp at hj)
                                   case c2 => first | rfl | (intro u hu; simp at hu; subst hu; rfl)
                                   case c3 => unfold maxLen; omega
                                   case c4 => omega
                                   case c5 => have := (hbw2).size; simp; omega
                                   intro v' w5 hown5 hgrow _
                                   have hown6 : OwnR W1.heap.size v' (out ++ [r2]) w5 := by
                                     unfold OwnR
                                     have el : (out ++ [r2]).length = out.length + 1 := by simp
                                     rw [el, List.map_append]
                                     exact hown5
                                   have hbw6 : Below W1.heap.size W1 w5 := ((hbw2).alloc (hbw2).size _).grown hgrow (by have := (hbw2).size; simp; omega) (fun q hq => ((hown2).lt q hq).1)
                                   go_wp2
                                   go_roundw
                                   case rel => exact ⟨at2, n', d', out ++ [r2], by go_num, by omega, by omega, hown6, by simp; omega, okRs_append hoko (okRs_one hok2), hbw6, (hgoR)⟩
                                   case measure => (simp [intOf]; try omega))
             · have hRes : Hid (R = (er, [], [])) := hid (by rw [← hone.out, hbad])
               have hez : ((er : Int) == 0) = false := by simp; omega
               have hez2 : ((er : Int) != 0) = true := by simp; omega
               go_wp2
               refine bodyPost_ret (v := val3 (er, [], 0)) ?_ rfl ⟨by rw [hZq.out, hRes.out]; simp only []; rw [if_neg hne], BW2⟩
               simp [results, Tryz.results69, go_sem, val3]
           · have n92 : ((r : Int) == 92) = false := by simp; omega
             cases hh : hiddenB r with
             | true =>
               have hRes : Hid (R = (4, [], [])) := hid (by
                 have ht : takeQ 255 0 out num dig r = (4, 0, out, num, dig) := by
                   unfold takeQ; rw [if_neg (by decide), if_neg (by decide), if_pos hh]
                 rw [← hH.out, hdr.out, runQ_bad 255 0 out num dig r _ (by omega) (by rw [ht]; simp), ht])
               have hz' : (r : Int) < 32 ∨ (¬ (r : Int) < 32 ∧ ((r : Int) == 127) = true) := by
                 simp [hiddenB] at hh
                 by_cases h32 : r < 32
                 · exact Or.inl (by omega)
                 · exact Or.inr ⟨by omega, by simp; omega⟩
               clear h39 h92
               rcases hz' with hz' | ⟨hz', hz2'⟩
               all_goals
                 go_wp2
                 refine bodyPost_ret (v := val3 (4, [], 0)) ?_ rfl ⟨by rw [hZq.out, hRes.out]; rfl, BW⟩
                 simp [results, Tryz.results69, go_sem, val3]
             | false =>
               have g1 : ¬ ((r : Int) < 32) := by simp [hiddenB] at hh; omega
               have g2 : ((r : Int) == 127) = false := by simp [hiddenB] at hh; simp; omega
               have htk : takeQ 255 0 out num dig r = addQ 255 out num dig r := by
                 unfold takeQ; rw [if_neg (by decide), if_neg (by decide), if_neg (by simp [hh]), if_neg h92]
               by_cases hl : out.length = 255
               · have hRes : Hid (R = (3, [], [])) := hid (by
                   have ht : takeQ 255 0 out num dig r = (3, 0, out, num, dig) := by rw [htk]; unfold addQ; rw [if_pos hl]
                   rw [← hH.out, hdr.out, runQ_bad 255 0 out num dig r _ (by omega) (by rw [ht]; simp), ht])
                 have hlz : (255 : Int) ≤ (out.length : Int) := by omega
                 clear hl h39 h92
                 go_wp2
                 refine bodyPost_ret (v := val3 (3, [], 0)) ?_ rfl ⟨by rw [hZq.out, hRes.out]; rfl, BW⟩
                 simp [results, Tryz.results69, go_sem, val3]
               · have hlz : ¬ (255 : Int) ≤ (out.length : Int) := by omega
                 have hgoR : Hid (runQ 255 0 (out ++ [r]) num dig (X.drop (k + 1)) = R) := hid (by
                   rw [← hH.out, hdr.out]
                   exact (runQ_step 255 0 out num dig r _ 0 (out ++ [r]) num dig (by omega) (by rw [htk, addQ_ok _ _ _ _ _ (by omega)])).symm)
                 clear h39 h92 htk
                 (
                                   go_wp2_with (at_builtin; refine wpList_append_own _ rfl _ _ 112 rfl W1.heap.size 21 i0 (.int .i32 0) 1 4 Tryz.underlying112 hi hz0 hz1 hz2 rfl (by decide) _ _ _ rfl (World.ownsRow.alloc hown _) ⟨wr.heap.size, 0, none⟩ 1 1 [.int .i32 (r : Int)] rfl rfl ?c1 ?c2 ?c3 ?c4 ?c5 ?_)
                                   try (case c1 =>
                                     intro j u hj
                                     match j, hj with
                                     | 0, hj => simp at hj; subst hj; simp [Addr.add]
                                     | j + 1, hj => simp at hj)
                                   case c2 => first | rfl | (intro u hu; simp at hu; subst hu; rfl)
                                   case c3 => unfold maxLen; omega
                                   case c4 => omega
                                   case c5 => have := (hbw).size; simp; omega
                                   intro v' w5 hown5 hgrow _
                                   have hown6 : OwnR W1.heap.size v' (out ++ [r]) w5 := by
                                     unfold OwnR
                                     have el : (out ++ [r]).length = out.length + 1 := by simp
                                     rw [el, List.map_append]
                                     exact hown5
                                   have hbw6 : Below W1.heap.size W1 w5 := ((hbw).alloc (hbw).size _).grown hgrow (by have := (hbw).size; simp; omega) (fun q hq => ((hown).lt q hq).1)
                                   go_wp2
                                   go_roundw
                                   case rel => exact ⟨(k + 1), num, dig, out ++ [r], by go_num, by omega, by omega, hown6, by simp; omega, okRs_append hoko (okRs_one hokr), hbw6, (hgoR)⟩
                                   case measure => (simp [intOf]; try omega))
       · have hkz : ¬ (k : Int) < (X.length : Int) := by omega
         have hkz2 : (X.length : Int) ≤ (k : Int) := by omega
         have hRes : Hid (R = (2, [], [])) := hid (by rw [← hH.out, List.drop_eq_nil_of_le (by omega)]; rfl)
         go_wp2
         refine bodyPost_ret (v := val3 (2, [], 0)) ?_ rfl ⟨by rw [hZq.out, hRes.out]; rfl, BW⟩
         simp [results, Tryz.results69, go_sem, val3]
   · have hZb : Hid (Z = if 255 < bareLen true X then (3, [], 0) else if bareLen true X = 0 then (4, [], 0) else (0, s.data.toList.take (bareLen true X), bareLen true X)) := hid (by
       rw [hZ1.out, if_neg (by simp [hX39]), hbq.out])
     have hhead : (((X.length : Int) == 0) = true) ∨ (((X.length : Int) == 0) = false ∧ ∃ r : Nat, W1.cell? ⟨g, 0, none⟩ = some (.int .i32 (r : Int)) ∧ ((r : Int) != 39) = true ∧ 0 < X.length) := by
       cases hXc : X with
       | nil => left; rfl
       | cons r t =>
         right
         refine ⟨by simp; omega, r, r1 0 r (by rw [hXc]; rfl), ?_, by simp⟩
         have : ¬ r = 39 := fun e => hX39 (by rw [hXc, e]; rfl)
         simp; omega
     clear hX39 hZ1 hdrop hbq hsz
     rcases hhead with q1 | ⟨q1, r0, c0, q2, q3⟩
     all_goals
       go_wp2
       go_loopw [6] (fun n wr => ∃ (k : Nat), n = .int .i64 (k : Int) ∧ wr = W1 ∧ k ≤ 255 ∧ k ≤ X.length ∧ Hid (k + bareLen (decide (k = 0)) (X.drop k) = bareLen true X)) (fun n _ => X.length - (intOf n).toNat)
       case atStart => exact ⟨0, rfl, rfl, by omega, by omega, hid (by simp)⟩
       case round =>
         obtain ⟨k, rfl, rfl, hk5, hkX, hH⟩ := hrel
         by_cases hk : k < X.length
         · have hkz : (k : Int) < (X.length : Int) := by omega
           obtain ⟨d, hd⟩ : ∃ d, X[k]? = some d := ⟨X[k], by simp [hk]⟩
           have cd := r1 k d hd
           have hfi : ((k : Int) == 0) = decide (k = 0) := by rw [Bool.eq_iff_iff]; simp
           have cp := rplain_w d (decide (k = 0)) wr
           have hdr : Hid (X.drop k = d :: X.drop (k + 1)) := hid (sdrop_at hd)
           cases hbb : bareB d (decide (k = 0)) with
           | true =>
             rw [hbb] at cp
             have hH2 : Hid (k + 1 + bareLen false (X.drop (k + 1)) = bareLen true X) := hid (by
               have h1 := hH.out
               rw [hdr.out, bareLen, if_pos hbb] at h1
               omega)
             by_cases h5 : k = 255
             · have h5z : (255 : Int) ≤ (k : Int) := by omega
               have hRes : Hid (Z = (3, [], 0)) := hid (by rw [hZb.out, if_pos (by have := hH2.out; omega)])
               clear h5
               go_wp2_with fail
               refine cp.mono ?_
               rintro e w9 ⟨rfl, rfl⟩
               go_wp2
               refine bodyPost_ret (v := val3 (3, [], 0)) ?_ rfl ⟨by rw [hRes.out], B1'⟩
               simp [results, Tryz.results69, go_sem, val3]
             · have h5z : ¬ (255 : Int) ≤ (k : Int) := by omega
               go_wp2_with fail
               refine cp.mono ?_
               rintro e w9 ⟨rfl, rfl⟩
               go_wp2
               go_roundw
               case rel =>
                 have hdd : decide (k + 1 = 0) = false := by simp
                 exact ⟨k + 1, by go_num, trivial, by omega, by omega, hid (by rw [hdd]; exact hH2.out)⟩
               case measure => (simp [intOf]; try omega)
           | false =>
             rw [hbb] at cp
             have hn : bareLen true X = k := by
               have h1 := hH.out
               rw [hdr.out, bareLen, if_neg (by simp [hbb])] at h1
               omega
             (
                         (go_wp2_with fail; refine cp.mono ?_; rintro e w9 ⟨rfl, rfl⟩)
                         by_cases h0 : k = 0
                         · have h0z : ((k : Int) == 0) = true := by rw [h0]; rfl
                           have h0d : decide (k = 0) = true := by simp [h0]
                           have hRes : Hid (Z = (4, [], 0)) := hid (by rw [hZb.out, hn, if_neg (by omega), if_pos h0])
                           clear hn h0
                           go_wp2
                           refine bodyPost_ret (v := val3 (4, [], 0)) ?_ rfl ⟨by rw [hRes.out], B1'⟩
                           simp [results, Tryz.results69, go_sem, val3]
                         · have h0z : ((k : Int) == 0) = false := by simp; omega
                           have h0d : decide (k = 0) = false := by simp [h0]
                           have hRes : Hid (Z = (0, s.data.toList.take k, k)) := hid (by rw [hZb.out, hn, if_neg (by omega), if_neg h0])
                           have hext : (⟨(s.data.toList.take k).toArray⟩ : ByteArray) = s.extract 0 k := by rw [← head_list, bytes_eq']
                           have hkz2 : (k : Int) ≤ (s.size : Int) := by omega
                           clear hn
                           go_wp2
                           refine bodyPost_ret (v := val3 (0, s.data.toList.take k, k)) ?_ rfl ⟨by rw [hRes.out], B1'⟩
                           simp [results, Tryz.results69, go_sem, val3, hext])
         · have hkz : ¬ (k : Int) < (X.length : Int) := by omega
           have hn : bareLen true X = k := by
             have h1 := hH.out
             rw [List.drop_eq_nil_of_le (by omega)] at h1
             simp only [bareLen] at h1
             omega
           (
                       skip
                       by_cases h0 : k = 0
                       · have h0z : ((k : Int) == 0) = true := by rw [h0]; rfl
                         have h0d : decide (k = 0) = true := by simp [h0]
                         have hRes : Hid (Z = (4, [], 0)) := hid (by rw [hZb.out, hn, if_neg (by omega), if_pos h0])
                         clear hn h0
                         go_wp2
                         refine bodyPost_ret (v := val3 (4, [], 0)) ?_ rfl ⟨by rw [hRes.out], B1'⟩
                         simp [results, Tryz.results69, go_sem, val3]
                       · have h0z : ((k : Int) == 0) = false := by simp; omega
                         have h0d : decide (k = 0) = false := by simp [h0]
                         have hRes : Hid (Z = (0, s.data.toList.take k, k)) := hid (by rw [hZb.out, hn, if_neg (by omega), if_neg h0])
                         have hext : (⟨(s.data.toList.take k).toArray⟩ : ByteArray) = s.extract 0 k := by rw [← head_list, bytes_eq']
                         have hkz2 : (k : Int) ≤ (s.size : Int) := by omega
                         clear hn
                         go_wp2
                         refine bodyPost_ret (v := val3 (0, s.data.toList.take k, k)) ?_ rfl ⟨by rw [hRes.out], B1'⟩
                         simp [results, Tryz.results69, go_sem, val3, hext])
structure Un where
 b : Nat
 v : Value
 xs : List Value
def Un.owns (u : Un) (k : Nat) : Prop := k = u.b ∨ u.v.ownBlock = some k
abbrev ptrU (u : Un) : Value := .pointer (some ⟨u.b, 0, none⟩)
structure RowM (B : Nat) (Z : Nat → Prop) (w : World) (o : Op) (u : Un) : Prop where
 at_ : w.heap[u.b]? = some (.cells #[.int .i32 (o.c.toNat : Int), u.v, .bool o.bar] 97 (0, 0))
 own : w.ownsRow B 27 7 u.v o.its.length u.xs
 rc : RC Z w o.its u.xs
 lo : B ≤ u.b
 nz : ∀ k, u.owns k → ¬ Z k
def Apart (u : Un) (us : List Un) : Prop := ∀ k, u.owns k → ∀ u' ∈ us, ¬ u'.owns k
def StkM (B : Nat) (Z : Nat → Prop) (w : World) : List Op → List Un → Prop
 | [], us => us = []
 | o :: st, us => ∃ u us', us = u :: us' ∧ RowM B Z w o u ∧ Apart u us' ∧ StkM B Z w st us'
theorem RowM.lt {B : Nat} {Z : Nat → Prop} {w : World} {o : Op} {u : Un} (h : RowM B Z w o u) : ∀ k, u.owns k → B ≤ k ∧ k < w.heap.size := by
 rintro k (rfl | hk)
 · exact ⟨h.lo, (Array.getElem?_eq_some_iff.1 h.at_).1⟩
 · exact World.ownsRow.lt h.own k hk
theorem RowM.ty {B : Nat} {Z : Nat → Prop} {w : World} {o : Op} {u : Un} (h : RowM B Z w o u) : ∀ k, u.owns k → ∃ c e, w.heap[k]? = some (.cells c e (0, 0)) ∧ (e = 97 ∨ e = 27) := by
 rintro k (rfl | hk)
 · exact ⟨_, _, h.at_, .inl rfl⟩
 · obtain ⟨_, ⟨h2, _⟩ | ⟨g, cap, cur, h2, hB, hg, _⟩⟩ := h.own
   · rw [h2] at hk; simp [Value.ownBlock] at hk
   · rw [h2] at hk
     simp only [Value.ownBlock, Option.some.injEq] at hk
     subst hk
     exact ⟨_, _, hg, .inr rfl⟩
theorem RowM.on {B : Nat} {Z Z' : Nat → Prop} {w w' : World} {o : Op} {u : Un} (h : RowM B Z w o u) (hz : ∀ k, Z k → w'.heap[k]? = w.heap[k]?) (hu : ∀ k, u.owns k → w'.heap[k]? = w.heap[k]?) (hZ : ∀ k, Z k → Z' k) (hn : ∀ k, u.owns k → ¬ Z' k) : RowM B Z' w' o u :=
 ⟨(hu _ (.inl rfl)).trans h.at_, own_blkS h.own (fun k hk => hu k (.inr hk)), RC.mono (fun k _ hk => hZ k hk) (h.rc.zs hz), h.lo, hn⟩
theorem StkM.mem {B : Nat} {Z : Nat → Prop} {w : World} : ∀ {st : List Op} {us : List Un}, StkM B Z w st us → ∀ u ∈ us, ∃ o, RowM B Z w o u
 | [], us, h, u, hu => by have : us = [] := h; subst this; simp at hu
 | o :: st, us, h, u, hu => by
   obtain ⟨u1, us', rfl, h1, _, h3⟩ := h
   rcases List.mem_cons.1 hu with rfl | hu
   · exact ⟨o, h1⟩
   · exact StkM.mem h3 u hu
theorem StkM.on {B : Nat} {Z Z' : Nat → Prop} {w w' : World} : ∀ {st : List Op} {us : List Un}, StkM B Z w st us → (∀ k, Z k → w'.heap[k]? = w.heap[k]?) → (∀ u ∈ us, ∀ k, u.owns k → w'.heap[k]? = w.heap[k]?) → (∀ k, Z k → Z' k) → (∀ u ∈ us, ∀ k, u.owns k → ¬ Z' k) → StkM B Z' w' st us
 | [], us, h, _, _, _, _ => h
 | o :: st, us, h, hz, hu, hZ, hn => by
   obtain ⟨u1, us', rfl, h1, h2, h3⟩ := h
   exact ⟨u1, us', rfl, h1.on hz (hu u1 (by simp)) hZ (hn u1 (by simp)), h2, StkM.on h3 hz (fun u hu' => hu u (by simp [hu'])) hZ (fun u hu' => hn u (by simp [hu']))⟩
theorem StkM.len {B : Nat} {Z : Nat → Prop} {w : World} : ∀ {st : List Op} {us : List Un}, StkM B Z w st us → us.length = st.length
 | [], us, h => by have : us = [] := h; subst this; rfl
 | o :: st, us, h => by
   obtain ⟨u1, us', rfl, _, _, h3⟩ := h
   simp [StkM.len h3]
structure RdS (B g : Nat) (Z : Nat → Prop) (r : List UInt8) (st : List Op) (us : List Un) (ov : Value) (w : World) : Prop where
 rdr : Rdr g r ov w
 own : w.ownsRow B 61 1 ov st.length (us.reverse.map ptrU)
 stk : StkM B Z w st us
 gl : B ≤ w.heap.size
 zl : ∀ k, Z k → k < w.heap.size
 zb : ∀ k, Z k → B ≤ k
 zg : ¬ Z g
 zo : ∀ k, ov.ownBlock = some k → ¬ Z k
def HdV (B : Nat) (Z : Nat → Prop) (us : List Un) (w : World) : Hd → Value → Prop
 | .no, v => v = .nilIface
 | .tm T, v => ∃ x, v = .iface 27 x ∧ TV Z w T x
 | .rw o, v => ∃ u, v = .iface 61 (ptrU u) ∧ RowM B Z w o u ∧ Apart u us
def StH (B g : Nat) (r : List UInt8) (st : List Op) (hd : Hd) (v : Value) (w : World) : Prop := ∃ Z us ov, RdS B g Z r st us ov w ∧ HdV B Z us w hd v
theorem RdS.oty {B g : Nat} {Z : Nat → Prop} {r : List UInt8} {st : List Op} {us : List Un} {ov : Value} {w : World} (h : RdS B g Z r st us ov w) : ∀ k, ov.ownBlock = some k → B ≤ k ∧ ∃ c, w.heap[k]? = some (.cells c 61 (0, 0)) := fun k hk => by
 obtain ⟨c, hc⟩ := own_block h.own k hk
 exact ⟨(World.ownsRow.lt h.own k hk).1, c, hc⟩
theorem RdS.ne_g {B g : Nat} {Z : Nat → Prop} {r : List UInt8} {st : List Op} {us : List Un} {ov : Value} {w : World} (h : RdS B g Z r st us ov w) {k : Nat} {c : Array Value} {e : TypeId} {f : Nat × Nat} (hk : w.heap[k]? = some (.cells c e f)) (he : e ≠ 45) : k ≠ g := fun e2 => by
 subst e2
 have := h.rdr.at_
 rw [hk] at this
 simp only [Option.some.injEq, Obj.cells.injEq] at this
 exact he this.2.1
theorem RdS.on {B g : Nat} {Z Z' : Nat → Prop} {r r' : List UInt8} {st : List Op} {us : List Un} {ov : Value} {w w' : World} (h : RdS B g Z r st us ov w) (hr : Rdr g r' ov w') (hk : Kpt (fun b => b = g) w w') (hZ : ∀ k, Z k → Z' k) (hZ' : ∀ k, Z' k → k < w'.heap.size ∧ (Z k ∨ w.heap.size ≤ k)) : RdS B g Z' r' st us ov w' := by
 have hz : ∀ k, Z k → w'.heap[k]? = w.heap[k]? := fun k hk' => hk.block k (h.zl k hk') (fun e => h.zg (e ▸ hk'))
 have hu : ∀ u ∈ us, ∀ k, u.owns k → w'.heap[k]? = w.heap[k]? := fun u hu k hk' => by
   obtain ⟨o, ho⟩ := h.stk.mem u hu
   obtain ⟨c, e, hc, he⟩ := ho.ty k hk'
   exact hk.block k (ho.lt k hk').2 (h.ne_g hc (by rcases he with rfl | rfl <;> decide))
 have hnn : ∀ u ∈ us, ∀ k, u.owns k → ¬ Z' k := fun u hu' k hk' hz' => by
   obtain ⟨o, ho⟩ := h.stk.mem u hu'
   rcases (hZ' k hz').2 with h1 | h1
   · exact ho.nz k hk' h1
   · have := (ho.lt k hk').2; omega
 refine ⟨hr, own_blkS h.own (fun k hk' => ?_), h.stk.on hz hu hZ hnn, Nat.le_trans h.gl hk.size, fun k hk' => (hZ' k hk').1, fun k hk' => (hZ' k hk').2.elim (h.zb k) (fun h1 => Nat.le_trans h.gl h1), fun hk' => ?_, fun k hk' hk2 => ?_⟩
 · obtain ⟨_, c, hc⟩ := h.oty k hk'
   exact hk.block k (World.ownsRow.lt h.own k hk').2 (h.ne_g hc (by decide))
 · rcases (hZ' g hk').2 with h1 | h1
   · exact h.zg h1
   · have := h.rdr.lt; omega
 · rcases (hZ' k hk2).2 with h1 | h1
   · exact h.zo k hk' h1
   · have := (World.ownsRow.lt h.own k hk').2; omega
abbrev FR (B g : Nat) : Nat → Prop := fun k => k = g ∨ B ≤ k
theorem begin_s (B g : Nat) (Z : Nat → Prop) (r : List UInt8) (st : List Op) (us : List Un) (ov : Value) (w W : World) (hr : r.length ≤ 900000) (h : RdS B g Z r st us ov w) (hv : Lib.validD r = true) (hT : TabsQ W) (hWg : W.heap.size ≤ g) (hb : Below W.heap.size W w) :
   Calls Tryz.prog 23 #[.pointer (some ⟨g, 0, none⟩)] w fun e w' => ∃ v, e = .returned v ∧ StH B g (beginL r).2 st (bgH (beginL r).1) v w' ∧ Kpt (FR B g) w w' := by
 have hst : ∀ b, r[0]? = some b → stB b.toNat = true := fun b hb0 => by
   cases r with
   | nil => simp at hb0
   | cons x t =>
     simp only [List.getElem?_cons_zero, Option.some.injEq] at hb0
     subst hb0
     exact vd_head hv
 have hbs : B ≤ w.heap.size := h.gl
 have hg : ∀ w', Kpt (fun b => b = g) w w' → TabsQ w' := fun w' hk => hT.below (hb.trans (hk.below hb.size (fun k hk' => hk' ▸ hWg)))
 refine (begin_w g r ov w hr h.rdr hst hg).mono ?_
 rintro e w1 ⟨v, rfl, hV, hR, hK⟩
 refine ⟨v, rfl, ?_, hK.mono (fun k hk' => .inl hk')⟩
 cases hbg : (beginL r).1 with
 | lf o =>
   rw [hbg] at hV
   refine ⟨fun k => Z k ∨ (w.heap.size ≤ k ∧ k < w1.heap.size), us, ov, h.on hR hK (fun k hk => .inl hk) (fun k hk => ?_), ?_⟩
   · rcases hk with hk | hk
     · exact ⟨Nat.lt_of_lt_of_le (h.zl k hk) hK.size, .inl hk⟩
     · exact ⟨hk.2, .inr hk.1⟩
   · cases o with
     | none => exact hV
     | some T =>
       obtain ⟨x, rfl, hx⟩ := hV
       exact ⟨x, rfl, TV.mono (fun k hk hz => .inr ⟨hz.1, hk⟩) _ _ hx⟩
 | rw c =>
   rw [hbg] at hV
   obtain ⟨b, rfl, hb1, hb2⟩ := hV
   refine ⟨Z, us, ov, h.on hR hK (fun k hk => hk) (fun k hk => ⟨Nat.lt_of_lt_of_le (h.zl k hk) hK.size, .inl hk⟩), ⟨b, .slice none 0 0, []⟩, rfl, ⟨hb2, World.ownsRow_nil _ _ _ _, rfl, by show B ≤ b; omega, ?_⟩, ?_⟩
   · rintro k (hk | hk) hz
     · have e : k = b := hk
       have := h.zl k hz; omega
     · simp [Value.ownBlock] at hk
   · rintro k (hk | hk) u' hu' hk'
     · have e : k = b := hk
       obtain ⟨o', ho'⟩ := h.stk.mem u' hu'
       have := (ho'.lt k hk').2
       omega
     · simp [Value.ownBlock] at hk
end Go.Proofs.YtlojfmlaookpmaaGreatDoor
