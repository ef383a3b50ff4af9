/- Texts of mine, one behind the other: TextRfB, TextRfC. -/
import Derived.Test.YtlojfmlaookpmaaGreatDoorSqU
import Derived.Test.YtlojfmlaookpmaaGreatDoorSqS
set_option linter.unusedSimpArgs false
set_option linter.unusedVariables false
set_option maxRecDepth 2000
open Array renaming getElem?_eq_some_iff → zge
namespace Go.Proofs.YtlojfmlaookpmaaGreatDoor
open Go.ChangeShapes Go.WideShapes Go.ChangeAt Go.RowKit Go.Shelf
structure ListQ (g : Nat) (s : List UInt8) (i n : Nat) (w : World) (e : Ending) (w' : World) : Prop where
 q : ∃ v T i' b n', e = .returned v ∧ RdO g s i' b n' T v w w' ∧ i' ≤ s.length ∧ (b = false → (if skB 93 (s.drop i) then (some nilT, skR 93 (s.drop i)) else rowL ⟨93, [], false⟩ (s.drop i)) = (some T, s.drop i') ∧ n' ≤ i' ∧ i ≤ i') ∧ (b = true → badO (if skB 93 (s.drop i) then (some nilT, skR 93 (s.drop i)) else rowL ⟨93, [], false⟩ (s.drop i)).1)
abbrev Zg7 (S gt : Nat) (w : World) : Nat → Prop := fun q => S ≤ q ∧ q < w.heap.size ∧ q ≠ gt
structure LpK (S gt : Nat) (w0 : World) (T : Tm) (k : Int) (neg : Bool) (D : Value) (nm : ByteArray) (n : Int) (L Bb : Value) (wr : World) : Prop where
 tv : TV (Zg7 S gt wr) wr T (tmV k neg D nm n L Bb)
 box : wr.heap[gt]? = some (.cells #[.int .i64 k, .bool neg, D, .string nm, .int .i64 n, L, Bb] 27 (0, 0))
 kp : Kpt (fun q => q = gt) w0 wr
theorem LpK.step {S gt : Nat} {w0 wr : World} {T t : Tm} {k : Int} {neg : Bool} {od : Option Addr} {ld cd : Nat} {nm : ByteArray} {n : Int} {ol : Option Addr} {ll cl : Nat} {ob : Option Addr} {lb cb : Nat}
   {k' : Int} {neg' : Bool} {od' : Option Addr} {ld' cd' : Nat} {nm' : ByteArray} {n' : Int} {ol' : Option Addr} {ll' cl' : Nat} {ob' : Option Addr} {lb' cb' : Nat}
   (h : LpK S gt w0 T k neg (.slice od ld cd) nm n (.slice ol ll cl) (.slice ob lb cb) wr) (hS : S ≤ wr.heap.size) (ht : TV (Zg7 S gt w0) w0 t (tmV k' neg' (.slice od' ld' cd') nm' n' (.slice ol' ll' cl') (.slice ob' lb' cb'))) :
   LpK S gt w0 (consT t T) 6 false nilS noS 0 (.slice (some ⟨wr.heap.size, 0, none⟩) 2 2) nilS (((((((((wr.setCell ⟨gt, 0, none⟩ (.int .i64 6)).setCell ⟨gt, 1, none⟩ (.bool false)).setCell ⟨gt, 2, none⟩ nilS).setCell ⟨gt, 3, none⟩ (.string noS)).setCell ⟨gt, 4, none⟩ (.int .i64 0)).setCell ⟨gt, 5, none⟩ (.slice (some ⟨wr.heap.size, 0, none⟩) 2 2)).setCell ⟨gt, 6, none⟩ nilS).alloc (.cells #[.int .i64 k', .bool neg', .slice od' ld' cd', .string nm', .int .i64 n', .slice ol' ll' cl', .slice ob' lb' cb', .int .i64 k, .bool neg, .slice od ld cd, .string nm, .int .i64 n, .slice ol ll cl, .slice ob lb cb] 27)).drew) := by
 have hgl := (zge.1 h.box).1
 have hon := only_put wr gt (.int .i64 6) (.bool false) nilS (.string noS) (.int .i64 0) (.slice (some ⟨wr.heap.size, 0, none⟩) 2 2) nilS
 have hb2 := heap_put7 h.box (.int .i64 6) (.bool false) nilS (.string noS) (.int .i64 0) (.slice (some ⟨wr.heap.size, 0, none⟩) 2 2) nilS
 generalize (((((((wr.setCell ⟨gt, 0, none⟩ (.int .i64 6)).setCell ⟨gt, 1, none⟩ (.bool false)).setCell ⟨gt, 2, none⟩ nilS).setCell ⟨gt, 3, none⟩ (.string noS)).setCell ⟨gt, 4, none⟩ (.int .i64 0)).setCell ⟨gt, 5, none⟩ (.slice (some ⟨wr.heap.size, 0, none⟩) 2 2)).setCell ⟨gt, 6, none⟩ nilS) = W at *
 have hWs : W.heap.size = wr.heap.size := hon.2.1
 have hBd : Below W.heap.size W (W.alloc (.cells #[.int .i64 k', .bool neg', .slice od' ld' cd', .string nm', .int .i64 n', .slice ol' ll' cl', .slice ob' lb' cb', .int .i64 k, .bool neg, .slice od ld cd, .string nm, .int .i64 n, .slice ol ll cl, .slice ob lb cb] 27)) := (Below.refl _ W).alloc (Nat.le_refl _) _
 have hnw := heap_alloc_new W (.cells #[.int .i64 k', .bool neg', .slice od' ld' cd', .string nm', .int .i64 n', .slice ol' ll' cl', .slice ob' lb' cb', .int .i64 k, .bool neg, .slice od ld cd, .string nm, .int .i64 n, .slice ol ll cl, .slice ob lb cb] 27)
 have hsz : (W.alloc (.cells #[.int .i64 k', .bool neg', .slice od' ld' cd', .string nm', .int .i64 n', .slice ol' ll' cl', .slice ob' lb' cb', .int .i64 k, .bool neg, .slice od ld cd, .string nm, .int .i64 n, .slice ol ll cl, .slice ob lb cb] 27)).heap.size = W.heap.size + 1 := by simp
 rw [hWs] at hnw
 generalize (W.alloc (.cells #[.int .i64 k', .bool neg', .slice od' ld' cd', .string nm', .int .i64 n', .slice ol' ll' cl', .slice ob' lb' cb', .int .i64 k, .bool neg, .slice od ld cd, .string nm, .int .i64 n, .slice ol ll cl, .slice ob lb cb] 27)) = V at *
 have hVs : V.drew.heap.size = wr.heap.size + 1 := hsz.trans (by rw [hWs])
 have hVd : ∀ q : Nat, V.drew.heap[q]? = V.heap[q]? := fun q => rfl
 have e1 : ∀ q, q < wr.heap.size → q ≠ gt → V.drew.heap[q]? = wr.heap[q]? := fun q hq hne => (hVd q).trans ((hBd.block q (by omega)).trans (hon.2.2 q hne))
 have hks := h.kp.size
 have t1 : TV (Zg7 S gt V.drew) V.drew t (tmV k' neg' (.slice od' ld' cd') nm' n' (.slice ol' ll' cl') (.slice ob' lb' cb')) :=
   TV.mono (fun q _ hq => ⟨hq.1, by have := hq.2.1; omega, hq.2.2⟩) _ _ (TV.zs (fun q hq => (e1 q (by have := hq.2.1; omega) hq.2.2).trans (h.kp.block q hq.2.1 hq.2.2)) _ _ ht)
 have t2 : TV (Zg7 S gt V.drew) V.drew T (tmV k neg (.slice od ld cd) nm n (.slice ol ll cl) (.slice ob lb cb)) :=
   TV.mono (fun q _ hq => ⟨hq.1, by have := hq.2.1; omega, hq.2.2⟩) _ _ (TV.zs (fun q hq => e1 q hq.2.1 hq.2.2) _ _ h.tv)
 refine ⟨?_, (hVd gt).trans ((hBd.block gt (by omega)).trans hb2), ?_⟩
 · unfold consT TV
   exact ⟨none, 0, some ⟨wr.heap.size, 0, none⟩, 2, none, 0, rfl, Ls.nil _ _ _, by simp, Lm.nil _, LsB.nil _ _ _, by simp, by simp, tr_two t1 t2 ((hVd _).trans hnw) ⟨hS, by show wr.heap.size < V.drew.heap.size; omega, by show wr.heap.size ≠ gt; omega⟩⟩
 · have k1 : Kpt (fun q => q = gt) wr W := ⟨hon.1.os, hon.1.tape, hon.1.output, Nat.le_of_eq hon.2.1.symm, fun q _ hn => hon.2.2 q hn⟩
   exact (h.kp.trans k1).trans (Kpt.of_below hBd.drew)
theorem tv_kindZ {Z : Nat → Prop} {w : World} {T : Tm} {k : Int} {neg : Bool} {D : Value} {nm : ByteArray} {n : Int} {L B : Value} (h : TV Z w T (tmV k neg D nm n L B)) : T.kind = k := by
 cases T with | mk tk tneg td tnm tn tl tb =>
 unfold TV at h
 obtain ⟨_, _, _, _, _, _, e, _⟩ := h
 simp only [tmV, Value.agg.injEq, Array.mk.injEq, List.cons.injEq, Value.int.injEq, true_and] at e
 exact e.1.symm
def lstR (s : List UInt8) (i : Nat) : Option Tm × List UInt8 := rowL ⟨93, [], false⟩ (s.drop i)
structure LsM (g : Nat) (s : List UInt8) (i : Nat) (w : World) (l : List Tm) (o : Option Addr) (gt : Nat) (E : Tm) (kd : Nat) (b : Bool) (m : Nat) (k : Int) (neg : Bool) (D : Value) (nm : ByteArray) (nn : Int) (L Bb : Value) (wr : World) : Prop where
 rd : RRf g s kd b m wr
 kp : Kpt (fun q => q = g) w wr
 rb : wr.heap[w.heap.size]? = some (.cells zr7 27 (0, 0))
 tr : TR (Zg7 (w.heap.size + 1) gt wr) wr l o
 tv : TV (Zg7 (w.heap.size + 1) gt wr) wr E (tmV k neg D nm nn L Bb)
 box : wr.heap[gt]? = some (.cells #[.int .i64 k, .bool neg, D, .string nm, .int .i64 nn, L, Bb] 27 (0, 0))
 lt : w.heap.size + 1 ≤ gt
 le : kd ≤ s.length
 good : b = false → (skB 93 (s.drop kd) = true → lstR s i = (some (consL l E), skR 93 (s.drop kd))) ∧ (skB 93 (s.drop kd) = false → (lstR s i).1 = none) ∧ m ≤ kd ∧ i < kd
 bad : b = true → badO (lstR s i).1
structure LsN (g : Nat) (s : List UInt8) (i : Nat) (w : World) (l : List Tm) (o : Option Addr) (gt : Nat) (E : Tm) (kd : Nat) (b : Bool) (m : Nat) (k : Int) (neg : Bool) (D : Value) (nm : ByteArray) (nn : Int) (L Bb : Value) (wr : World) : Prop where
 rd : RRf g s kd b m wr
 kp : Kpt (fun q => q = g) w wr
 rb : wr.heap[w.heap.size]? = some (.cells zr7 27 (0, 0))
 tr : TR (Zg7 (w.heap.size + 1) gt wr) wr l o
 tv : TV (Zg7 (w.heap.size + 1) gt wr) wr E (tmV k neg D nm nn L Bb)
 box : wr.heap[gt]? = some (.cells #[.int .i64 k, .bool neg, D, .string nm, .int .i64 nn, L, Bb] 27 (0, 0))
 lt : w.heap.size + 1 ≤ gt
 le : kd ≤ s.length
 good : b = false → lstR s i = (some (consL l E), s.drop kd) ∧ m ≤ kd ∧ i ≤ kd
 bad : b = true → badO (lstR s i).1
theorem LsM.to {g : Nat} {s : List UInt8} {i : Nat} {w : World} {l : List Tm} {o : Option Addr} {gt : Nat} {E : Tm} {kd : Nat} {b : Bool} {m : Nat} {k : Int} {neg : Bool} {D : Value} {nm : ByteArray} {nn : Int} {L Bb : Value} {wr w' : World} (h : LsM g s i w l o gt E kd b m k neg D nm nn L Bb wr) (hg : g < w.heap.size) {kd' : Nat} {b' : Bool} (hR : RRf g s kd' b' m w') (hK : Kpt (fun q => q = g) wr w') (hle : kd' ≤ s.length)
   (hgood : b' = false → b = false ∧ skB 93 (s.drop kd) = true ∧ kd' = kd + 1) (hbad : b' = true → b = true ∨ skB 93 (s.drop kd) = false) :
   LsN g s i w l o gt E kd' b' m k neg D nm nn L Bb w' := by
 have hlt := h.lt
 have q1 := (zge.1 h.rb).1
 have q2 := (zge.1 h.box).1
 refine ⟨hR, h.kp.trans hK, (hK.block _ q1 (by omega)).trans h.rb, ?_, ?_, (hK.block _ q2 (by omega)).trans h.box, hlt, hle, fun h0 => ?_, fun h0 => ?_⟩
 · exact TR.mono (fun q _ hq => ⟨hq.1, Nat.lt_of_lt_of_le hq.2.1 hK.size, hq.2.2⟩) _ _ (TR.zs (Z := Zg7 (w.heap.size + 1) gt wr) (fun q hq => hK.block q hq.2.1 (fun e => by have := hq.1; omega)) _ _ h.tr)
 · exact TV.mono (fun q _ hq => ⟨hq.1, Nat.lt_of_lt_of_le hq.2.1 hK.size, hq.2.2⟩) _ _ (TV.zs (Z := Zg7 (w.heap.size + 1) gt wr) (fun q hq => hK.block q hq.2.1 (fun e => by have := hq.1; omega)) _ _ h.tv)
 · obtain ⟨p1, p2, p3⟩ := hgood h0
   obtain ⟨r1, r2, r3, r4⟩ := h.good p1
   refine ⟨by rw [r1 p2, p3, (drop_skR p2).1], by omega, by omega⟩
 · rcases hbad h0 with p | p
   · exact h.bad p
   · cases hb : b with
     | true => exact h.bad hb
     | false => rw [(h.good hb).2.1 p]; exact badO_none
set_option maxHeartbeats 4000000 in
theorem rlist_w (g : Nat) (s : List UInt8) (i n : Nat) (hs : s.length ≤ 3000) (hi : i ≤ s.length) (hv : Lib.validD (s.drop i) = true)
   (ht : ∀ i', i ≤ i' → i' ≤ s.length → Lib.validD (s.drop i') = true → TermC g s i') (w : World) (h : RRf g s i false n w) (hn : n ≤ i) (hTb : ∀ w', Kpt (fun k => k = g) w w' → TabX w') :
   Calls Tryz.prog 36 #[.pointer (some ⟨g, 0, none⟩)] w (ListQ g s i n w) := by
 have hgw := h.lt
 obtain ⟨W0, hW0⟩ : ∃ W0, W0 = w.alloc (.cells zr7 27) := ⟨_, rfl⟩
 have bW0 : Below w.heap.size w W0 := by rw [hW0]; exact (Below.refl _ w).alloc (Nat.le_refl _) _
 have hRB0 : W0.heap[w.heap.size]? = some (.cells zr7 27 (0, 0)) := by rw [hW0]; exact heap_alloc_new w _
 have c1 := isA g s i false n 93 (by omega) hi W0 (h.below bW0)
 rw [show bs [93] = ⟨#[93]⟩ from rfl] at c1
 obtain ⟨B, hB⟩ : ∃ B, (!false && skB 93 (s.drop i)) = B := ⟨_, rfl⟩
 rw [hB] at c1
 have hBH : Hid (skB 93 (s.drop i) = B) := hid (by simpa using hB)
 have hW0H := hid hW0
 have htH := hid ht
 have hTH := hid hTb
 have hvH := hid hv
 have hK0 := hid (Kpt.of_below (F := fun k => k = g) bW0)
 clear h ht hTb hv bW0 hW0 hB
 go_enter Tryz.func36, Tryz.ntmps36
 go_wp2_with fail
 rw [← hW0H.out]
 refine c1.mono ?_
 rintro e w1 ⟨rfl, hR1, hK1⟩
 have hRB1 := (hK1.block _ (zge.1 hRB0).1 (by omega)).trans hRB0
 have hK01 := hid (hK0.out.trans hK1)
 cases B with
 | true =>
   have hR1' : RRf g s (i + 1) false n w1 := by simpa using hR1
   have c2 := rNil_w w1
   clear c1 hR1 hK1 hRB0
   go_wp2_with fail
   refine c2.mono ?_
   rintro e w4 ⟨rfl, b4⟩
   have hRW := hid (hR1'.below b4)
   have hKW := hid (hK01.out.trans (Kpt.of_below b4))
   have hRB := (b4.block _ (zge.1 hRB1).1).trans hRB1
   have hd := drop_skR hBH.out
   clear c2 hR1' hRB1 b4
   obtain ⟨e0, e1, e2, e3, e4, e5, e6⟩ := cell7 hRB
   have efr : ∀ j, w4.frozen? ⟨w.heap.size, j, none⟩ = false := (res7 hRB).fr
   have hp7 := heap_put7 hRB (.int .i64 5) (.bool false) nilS (.string noS) (.int .i64 0) nilS nilS
   have hon := only_put w4 w.heap.size (.int .i64 5) (.bool false) nilS (.string noS) (.int .i64 0) nilS nilS
   obtain ⟨q0, q1, q2, q3, q4, q5, q6⟩ := cell7 hp7
   have hFin := hid (rdo_fin (w := w) (T := nilT) (tv_flatZ 5 noS 0) (Nat.le_refl _) hRW.out hKW.out hgw hon)
   clear hp7 hon
   have hdH := hid hd
   clear hd
   go_wp2
   exact bodyPost_ret (v := tmV 5 false nilS noS 0 nilS nilS) (by simp [results, Tryz.results36, go_sem, q0, q1, q2, q3, q4, q5, q6]) rfl ⟨⟨_, nilT, i + 1, false, n, rfl, hFin.out, hdH.out.2, fun _ => ⟨by rw [if_pos hBH.out, ← hdH.out.1], by omega, by omega⟩, fun h => (by cases h)⟩⟩
 | false =>
   have hR1' : RRf g s i false n w1 := by simpa using hR1
   have c2 := items_w g s i n 93 (.inl rfl) hs hi hvH.out htH.out w1 hR1' hn (fun w' hw' => hTH.out w' (hK01.out.trans hw'))
   clear c1 hR1 hK1 hRB0
   go_wp2_with fail
   refine c2.mono ?_
   rintro e w2 ⟨⟨o, l, cp, i2, b2, n2, rfl, hI, hR2, hi2, hK2, hll, hl0, hg2, hb2⟩⟩
   have hs1 : w.heap.size + 1 ≤ w1.heap.size := (zge.1 hRB1).1
   have hRB2 := (hK2.block _ (zge.1 hRB1).1 (by omega)).trans hRB1
   have hTR2 := hI.tr
   have c3 := rNil_w w2
   clear c2 hR1'
   go_wp2_with fail
   refine c3.mono ?_
   rintro e w3 ⟨rfl, b3⟩
   obtain ⟨W4, hW4⟩ : ∃ W4, W4 = w3.alloc (.cells #[.int .i64 5, .bool false, .slice none 0 0, .string ⟨#[]⟩, .int .i64 0, .slice none 0 0, .slice none 0 0] 27) := ⟨_, rfl⟩
   have b34 : Below w3.heap.size w3 W4 := by rw [hW4]; exact (Below.refl _ _).alloc (Nat.le_refl _) _
   have b24 : Below w2.heap.size w2 W4 := b3.trans (below_le b34 b3.size)
   have hbx4 : W4.heap[w3.heap.size]? = some (.cells #[.int .i64 5, .bool false, .slice none 0 0, .string ⟨#[]⟩, .int .i64 0, .slice none 0 0, .slice none 0 0] 27 (0, 0)) := by rw [hW4]; exact heap_alloc_new w3 _
   have hs2 := hK2.size
   have hs3 := b3.size
   have hR4 := hR2.below b24
   have hK4 := hid (hK01.out.trans (hK2.trans (Kpt.of_below b24)))
   have hRB4 := (b24.block _ (by omega)).trans hRB2
   have hTR4 : TR (Zg7 (w.heap.size + 1) w3.heap.size W4) W4 l o := TR.mono (fun q _ hq => ⟨by have := hq.1; omega, by have := hq.2; have := b24.size; omega, by have := hq.2; omega⟩) _ _ (TR.zs (Z := Zb w1.heap.size w2) (fun q hq => b24.block q hq.2) _ _ hTR2)
   have hgtS : w.heap.size + 1 ≤ w3.heap.size := by omega
   have c4 := isA g s i2 b2 n2 124 (by omega) hi2 W4 hR4
   rw [show bs [124] = ⟨#[124]⟩ from rfl] at c4
   obtain ⟨B2, hB2⟩ : ∃ B, (!b2 && skB 124 (s.drop i2)) = B := ⟨_, rfl⟩
   rw [hB2] at c4
   have hg2H := hid hg2
   have hb2H := hid hb2
   have hB2H := hid hB2
   have hW4H := hid hW4
   have hwW : Hid (∀ w', Kpt (fun q => q = g) W4 w' → Kpt (fun q => q = g) w w') := hid (fun w' hw' => hK4.out.trans hw')
   clear hg2 hb2 hB2 hW4 hR2 hK2 hI hTR2 hRB1 hRB2 b34 b24 b3 c3
   go_upto_region 5 with fail
   rw [← hW4H.out]
   clear hW4H
   generalize w3.heap.size = gt at *
   go_wp2_with fail
   refine c4.mono ?_
   rintro e w5 ⟨rfl, hR5, hK5⟩
   have hgt4 := (zge.1 hbx4).1
   have hbx5 := (hK5.block _ hgt4 (by omega)).trans hbx4
   have hRB5 := (hK5.block _ (zge.1 hRB4).1 (by omega)).trans hRB4
   have hTR5 : TR (Zg7 (w.heap.size + 1) gt w5) w5 l o := TR.mono (fun q _ hq => ⟨hq.1, Nat.lt_of_lt_of_le hq.2.1 hK5.size, hq.2.2⟩) _ _ (TR.zs (Z := Zg7 (w.heap.size + 1) gt W4) (fun q hq => hK5.block q hq.2.1 (fun e => by have := hq.1; omega)) _ _ hTR4)
   clear c4
   go_upto_if 13 with fail
   go_cut [] from 14 to 32 (fun wx => ∃ E kd b m k neg od ld cd nm nn ol ll cl ob lb cb, LsM g s i w l o gt E kd b m k neg (.slice od ld cd) nm nn (.slice ol ll cl) (.slice ob lb cb) wx)
   case first =>
     cases B2 with
     | false =>
       have hM : Hid (LsM g s i w l o gt nilT i2 b2 n2 5 false nilS noS 0 nilS nilS w5) := hid ⟨by simpa using hR5, hwW.out _ hK5, hRB5, hTR5, tv_flatZ 5 noS 0, hbx5, hgtS, hi2, fun h0 => by
           obtain ⟨l0, T, e1, e2, e3, e4, e5, e6⟩ := hg2H.out h0
           have h124 : skB 124 (s.drop i2) = false := by have := hB2H.out; rw [h0] at this; simpa using this
           refine ⟨fun h93 => ?_, fun h93 => ?_, e4, e6⟩
           · unfold lstR; rw [e3, aft_lst h93, ← e1]
           · unfold lstR; rw [e3]; exact aft_lst_no h93 e2 h124, hb2H.out⟩
       clear hR5 hK5 hbx5 hRB5 hTR5 hbx4 hRB4 hTR4 hR4
       go_wp2_with fail
       go_meet
       exact ⟨nilT, i2, b2, n2, 5, false, none, 0, 0, noS, 0, none, 0, 0, none, 0, 0, hM.out⟩
     | true =>
       have hb0 : b2 = false := by have := hB2H.out; cases b2 with | false => rfl | true => simp at this
       subst hb0
       have h124 : skB 124 (s.drop i2) = true := by simpa using hB2H.out
       obtain ⟨d1, d2⟩ := drop_skR h124
       obtain ⟨l0, T, e1, e2, e3, e4, e5, e6⟩ := hg2H.out rfl
       have hv2 : Lib.validD (s.drop (i2 + 1)) = true := by rw [d1]; exact vd_skR (by decide) e5
       have hR5' : RRf g s (i2 + 1) false n2 w5 := by simpa using hR5
       have c5 := htH.out (i2 + 1) (by omega) (by omega) hv2 n2 w5 hR5' (by omega) (fun w' hw' => hTH.out w' (hwW.out _ (hK5.trans hw')))
       have hrow : Hid (lstR s i = rowL ⟨93, l, true⟩ (s.drop (i2 + 1))) := hid (by unfold lstR; rw [e3, aft_bar h124, ← e1, d1])
       clear hR5 hbx4 hRB4 hTR4 hR4 h124 d1 e1 e2 e3 e5 hg2H hb2H hB2H l0 T hv2 hR5'
       go_wp2_with fail
       refine c5.mono ?_
       rintro e w6 ⟨⟨v, E, i6, b6, n6, rfl, hO, hi6, hg6, hb6⟩⟩
       obtain ⟨xk, xneg, xod, xld, xcd, xnm, xn, xol, xll, xcl, xob, xlb, xcb, rfl⟩ := hO.tv.form
       have hgt5 := (zge.1 hbx5).1
       have hbx6 := (hO.kp.block _ hgt5 (by omega)).trans hbx5
       have hRB6 := (hO.kp.block _ (zge.1 hRB5).1 (by omega)).trans hRB5
       have hTR6 : TR (Zg7 (w.heap.size + 1) gt w6) w6 l o := TR.mono (fun q _ hq => ⟨hq.1, Nat.lt_of_lt_of_le hq.2.1 hO.kp.size, hq.2.2⟩) _ _ (TR.zs (Z := Zg7 (w.heap.size + 1) gt w5) (fun q hq => hO.kp.block q hq.2.1 (fun e => by have := hq.1; omega)) _ _ hTR5)
       have hTV6 : TV (Zg7 (w.heap.size + 1) gt w6) w6 E (tmV xk xneg (.slice xod xld xcd) xnm xn (.slice xol xll xcl) (.slice xob xlb xcb)) := TV.mono (fun q _ hq => ⟨by have := hq.1; omega, hq.2, by have := hq.1; omega⟩) _ _ hO.tv
       obtain ⟨W7, hW7⟩ : ∃ W7, W7 = ((((((w6.setCell ⟨gt, 0, none⟩ (.int .i64 xk)).setCell ⟨gt, 1, none⟩ (.bool xneg)).setCell ⟨gt, 2, none⟩ (.slice xod xld xcd)).setCell ⟨gt, 3, none⟩ (.string xnm)).setCell ⟨gt, 4, none⟩ (.int .i64 xn)).setCell ⟨gt, 5, none⟩ (.slice xol xll xcl)).setCell ⟨gt, 6, none⟩ (.slice xob xlb xcb) := ⟨_, rfl⟩
       have on7 := only_put w6 gt (.int .i64 xk) (.bool xneg) (.slice xod xld xcd) (.string xnm) (.int .i64 xn) (.slice xol xll xcl) (.slice xob xlb xcb)
       have hbx7 := heap_put7 hbx6 (.int .i64 xk) (.bool xneg) (.slice xod xld xcd) (.string xnm) (.int .i64 xn) (.slice xol xll xcl) (.slice xob xlb xcb)
       rw [← hW7] at on7 hbx7
       have hks := hwW.out _ hK5
       have hss := hks.size
       have hso := hO.kp.size
       have hR7 : RRf g s i6 b6 n6 W7 := ⟨(on7.2.2 g (by omega)).trans hO.rd.at_⟩
       have hM : Hid (∀ bb, bb = (b6 || decide (xk = 5) || decide (xk = 6)) → LsM g s i w l o gt E i6 bb n6 xk xneg (.slice xod xld xcd) xnm xn (.slice xol xll xcl) (.slice xob xlb xcb) (W7.setCell ⟨g, 2, none⟩ (.bool bb))) := hid (fun bb hbb => by
         have on8 := only_set W7 g 2 (.bool bb)
         have hK7 : Kpt (fun q => q = g) w W7 := only_kpt (hks.trans hO.kp) on7 (by omega)
         have hg7 : ∀ q, q ≠ gt → q ≠ g → (W7.setCell ⟨g, 2, none⟩ (.bool bb)).heap[q]? = w6.heap[q]? := fun q h1 h2 => (on8.2.2 q h2).trans (on7.2.2 q h1)
         have hsz : (W7.setCell ⟨g, 2, none⟩ (.bool bb)).heap.size = w6.heap.size := on8.2.1.trans on7.2.1
         have hkd := tv_kindZ hO.tv
         refine ⟨hR7.set2 bb, hK7.trans (Kpt.of_set (F := fun q => q = g) W7 (p := ⟨g, 2, none⟩) rfl _), (hg7 _ (by omega) (by omega)).trans hRB6, ?_, ?_, (on8.2.2 gt (by omega)).trans hbx7, hgtS, hi6, fun h0 => ?_, fun h0 => ?_⟩
         · exact TR.mono (fun q _ hq => ⟨hq.1, by rw [hsz]; exact hq.2.1, hq.2.2⟩) _ _ (TR.zs (Z := Zg7 (w.heap.size + 1) gt w6) (fun q hq => hg7 q hq.2.2 (by have := hq.1; omega)) _ _ hTR6)
         · exact TV.mono (fun q _ hq => ⟨hq.1, by rw [hsz]; exact hq.2.1, hq.2.2⟩) _ _ (TV.zs (Z := Zg7 (w.heap.size + 1) gt w6) (fun q hq => hg7 q hq.2.2 (by have := hq.1; omega)) _ _ hTV6)
         · rw [h0] at hbb
           have hb := hbb.symm
           simp only [Bool.or_eq_false_iff, decide_eq_false_iff_not] at hb
           obtain ⟨⟨q1, q2⟩, q3⟩ := hb
           obtain ⟨p1, p2, p3, p4⟩ := hg6 q1
           have hne : ¬ (E.kind = 5 ∨ E.kind = 6) := by rw [hkd]; exact fun e => e.elim q2 q3
           have hr : lstR s i = aftL ⟨93, l, true⟩ E (s.drop i6) := by rw [hrow.out, row_aft p1, p2]
           refine ⟨fun h93 => ?_, fun h93 => ?_, p3, by omega⟩
           · rw [hr, bar_end h93, if_neg hne]
           · rw [hr]; exact bar_no h93
         · cases b6 with
           | true => rw [hrow.out]; exact row_badO (hb6 rfl)
           | false =>
             obtain ⟨p1, p2, p3, p4⟩ := hg6 rfl
             rw [h0] at hbb
             have hb := hbb.symm
             simp only [Bool.false_or, Bool.or_eq_true, decide_eq_true_eq] at hb
             have hr : lstR s i = aftL ⟨93, l, true⟩ E (s.drop i6) := by rw [hrow.out, row_aft p1, p2]
             rw [hr]
             cases h93 : skB 93 (s.drop i6) with
             | true => rw [bar_end h93, if_pos (by rw [hkd]; exact hb)]; exact badO_none
             | false => rw [bar_no h93]; exact badO_none)
       obtain ⟨e0, e1, e2, e3, e4, e5, e6⟩ := cell7 hbx6
       have efr : ∀ j, w6.frozen? ⟨gt, j, none⟩ = false := (res7 hbx6).fr
       have hW7H := hid hW7
       clear hW7 hO hbx5 hRB5 hTR5 hbx6 hRB6 hTR6 hTV6 hg6 hb6 on7 c5
       go_upto_region 7 with fail
       rw [← hW7H.out]
       clear hW7H e0 e1 e2 e3 e4 e5 e6 efr
       obtain ⟨x0, x1, x2, x3, x4, x5, x6⟩ := cell7 hbx7
       obtain ⟨y0, y1, y2, y3, f1, f2, f3⟩ := hR7.cells
       have hMM : ∀ bb, bb = (b6 || decide (xk = 5) || decide (xk = 6)) → ∃ E kd b m k neg od ld cd nm nn ol ll cl ob lb cb, LsM g s i w l o gt E kd b m k neg (.slice od ld cd) nm nn (.slice ol ll cl) (.slice ob lb cb) (W7.setCell ⟨g, 2, none⟩ (.bool bb)) := fun bb hbb => ⟨_, _, _, _, _, _, _, _, _, _, _, _, _, _, _, _, _, hM.out bb hbb⟩
       have hMH := hid hMM
       clear hMM hM hbx7 hR7
       cases b6 with
       | true =>
         go_wp2_with fail
         go_meet
         exact hMH.out true rfl
       | false =>
         by_cases h5 : xk = 5
         · subst h5
           go_wp2_with fail
           go_meet
           exact hMH.out true rfl
         · have h5b : (xk == 5) = false := by simp [h5]
           by_cases h6 : xk = 6
           · subst h6
             go_wp2_with fail
             go_meet
             exact hMH.out true rfl
           · have h6b : (xk == 6) = false := by simp [h6]
             have hMf := hid (hMH.out false (by simp [h5, h6]))
             go_wp2_with fail
             go_meet
             exact hMf.out
   case rest =>
     obtain ⟨E, kd, b, m, k, neg, od, ld, cd, nm, nn, ol, ll, cl, ob, lb, cb, hM⟩ := hcut
     have hMH := hid hM
     obtain ⟨y0, y1, y2, y3, f1, f2, f3⟩ := hM.rd.cells
     clear hM hTR5 hRB5 hbx5 hR5 hK5 hTR4 hRB4 hbx4 hR4 hg2H hb2H hB2H htH
     go_upto_region 8 with fail
     go_cut [] from 33 to 44 (fun wx => ∃ kd' b', LsN g s i w l o gt E kd' b' m k neg (.slice od ld cd) nm nn (.slice ol ll cl) (.slice ob lb cb) wx)
     case first =>
       cases b with
       | true =>
         have hN : Hid (LsN g s i w l o gt E kd true m k neg (.slice od ld cd) nm nn (.slice ol ll cl) (.slice ob lb cb) (wc.setCell ⟨g, 2, none⟩ (.bool true))) := hid (hMH.out.to hgw (hMH.out.rd.set2 true) (Kpt.of_set (F := fun q => q = g) wc (p := ⟨g, 2, none⟩) rfl _) hMH.out.le (fun h => by cases h) (fun _ => .inl rfl))
         go_wp2_with fail
         go_meet
         exact ⟨kd, true, hN.out⟩
       | false =>
         have c6 := isA g s kd false m 93 (by omega) hMH.out.le wc hMH.out.rd
         rw [show bs [93] = ⟨#[93]⟩ from rfl] at c6
         obtain ⟨B6, hB6⟩ : ∃ B, (!false && skB 93 (s.drop kd)) = B := ⟨_, rfl⟩
         rw [hB6] at c6
         have hB6H : Hid (skB 93 (s.drop kd) = B6) := hid (by simpa using hB6)
         clear hB6
         go_wp2_with fail
         refine c6.mono ?_
         rintro e w9 ⟨rfl, hR9, hK9⟩
         have hN : Hid (LsN g s i w l o gt E (if B6 = true then kd + 1 else kd) (!B6) m k neg (.slice od ld cd) nm nn (.slice ol ll cl) (.slice ob lb cb) (w9.setCell ⟨g, 2, none⟩ (.bool (!B6)))) := hid (hMH.out.to hgw (hR9.set2 (!B6)) (hK9.trans (Kpt.of_set (F := fun q => q = g) w9 (p := ⟨g, 2, none⟩) rfl _)) (by
             cases B6 with
             | true => have := (drop_skR hB6H.out).2; simp; omega
             | false => exact hMH.out.le) (fun h => by
             cases B6 with
             | true => exact ⟨rfl, hB6H.out, rfl⟩
             | false => cases h) (fun h => by
             cases B6 with
             | true => cases h
             | false => exact .inr hB6H.out))
         clear y0 y1 y2 y3 f1 f2 f3 c6 hK9
         obtain ⟨y0, y1, y2, y3, f1, f2, f3⟩ := hR9.cells
         clear hR9
         cases B6 with
         | true =>
           go_wp2_with fail
           go_meet
           exact ⟨_, _, hN.out⟩
         | false =>
           go_wp2_with fail
           go_meet
           exact ⟨_, _, hN.out⟩
     case rest =>
       obtain ⟨kd2, b7, hN⟩ := hcut
       have hNH := hid hN
       have hLp0 : Hid (LpK (w.heap.size + 1) gt wc E k neg (.slice od ld cd) nm nn (.slice ol ll cl) (.slice ob lb cb) wc) := hid ⟨hN.tv, hN.box, Kpt.refl _ _⟩
       have hTRH := hid hN.tr
       have hgtw : w.heap.size + 1 ≤ gt := hN.lt
       have hgtl : gt < wc.heap.size := (zge.1 hN.box).1
       have hnz : (l.length : Int) ≤ 4000 := by omega
       clear hN hMH y0 y1 y2 y3 f1 f2 f3
       go_wp2_with fail
       go_loopg [5] l.length (fun t v6 wr => ∃ (k : Int) (neg : Bool) (od : Option Addr) (ld cd : Nat) (nm : ByteArray) (n : Int) (ol1 : Option Addr) (ll cl1 : Nat) (ob : Option Addr) (lb cb : Nat), v6 = .int .i64 ((t : Int) - 1) ∧ t ≤ l.length ∧ LpK (w.heap.size + 1) gt wc (consL (l.drop t) E) k neg (.slice od ld cd) nm n (.slice ol1 ll cl1) (.slice ob lb cb) wr)
       case atStart => exact ⟨k, neg, od, ld, cd, nm, nn, ol, ll, cl, ob, lb, cb, by first | rfl | go_num, Nat.le_refl _, by rw [List.drop_length]; exact hLp0.out⟩
       case round =>
         clear hLp0
         obtain ⟨xk, xneg, xod, xld, xcd, xnm, xn, xol, xll, xcl, xob, xlb, xcb, rfl, hgk, hLp⟩ := hrel
         generalize gk = t9 at *
         obtain ⟨c0, c1, c2, c3, c4, c5, c6⟩ := cell7 hLp.box
         have hfr : ∀ j, wr.frozen? ⟨gt, j, none⟩ = false := (res7 hLp.box).fr
         have hws := hLp.kp.size
         cases t9 with
         | zero =>
           rw [List.drop_zero] at hLp
           have hN := hNH.out
           have hrbl := (zge.1 hN.rb).1
           have hRB := (hLp.kp.block _ hrbl (by omega)).trans hN.rb
           have hTW := hid (TV.mono (fun q _ hq => (⟨hq.1, hq.2.1⟩ : Zb (w.heap.size + 1) wr q)) _ _ hLp.tv)
           have hRW : Hid (RRf g s kd2 b7 m wr) := hid ⟨(hLp.kp.block g hN.rd.lt (by omega)).trans hN.rd.at_⟩
           have hKW : Hid (Kpt (fun q => q = g) w wr) := hid ⟨hLp.kp.os.trans hN.kp.os, hLp.kp.tape.trans hN.kp.tape, hLp.kp.output.trans hN.kp.output, Nat.le_trans hN.kp.size hLp.kp.size, fun q hq hn => (hLp.kp.block q (by omega) (by omega)).trans (hN.kp.block q hq hn)⟩
           have hSW := Nat.le_refl (w.heap.size + 1)
           clear hLp hN hTRH
           obtain ⟨e0, e1, e2, e3, e4, e5, e6⟩ := cell7 hRB
           have efr : ∀ j, wr.frozen? ⟨w.heap.size, j, none⟩ = false := (res7 hRB).fr
           have hp7 := heap_put7 hRB (.int .i64 xk) (.bool xneg) (.slice xod xld xcd) (.string xnm) (.int .i64 xn) (.slice xol xll xcl) (.slice xob xlb xcb)
           have hon := only_put wr w.heap.size (.int .i64 xk) (.bool xneg) (.slice xod xld xcd) (.string xnm) (.int .i64 xn) (.slice xol xll xcl) (.slice xob xlb xcb)
           obtain ⟨q0, q1, q2, q3, q4, q5, q6⟩ := cell7 hp7
           have hFin := hid (rdo_fin (w := w) hTW.out hSW hRW.out hKW.out hgw hon)
           clear hp7 hon
           clear hRB
           go_wp2
           exact bodyPost_ret (v := tmV xk xneg (.slice xod xld xcd) xnm xn (.slice xol xll xcl) (.slice xob xlb xcb)) (by simp [results, Tryz.results36, go_sem, q0, q1, q2, q3, q4, q5, q6]) rfl ⟨⟨_, consL l E, kd2, b7, m, rfl, hFin.out, hNH.out.le, fun h0 => (by
             have := hNH.out.good h0
             rw [if_neg (by rw [hBH.out]; simp)]
             exact ⟨this.1, this.2.1, this.2.2⟩), fun h0 => (by
             rw [if_neg (by rw [hBH.out]; simp)]
             exact hNH.out.bad h0)⟩⟩
         | succ t9 =>
           obtain ⟨x, hx⟩ : ∃ x, l[t9]? = some x := ⟨l[t9]'(by omega), by simp⟩
           obtain ⟨pa, pk, pneg, pod, pld, pcd, pnm, pn, pol, pll, pcl, pob, plb, pcb, hpa, hTp, z0, z1, z2, z3, z4, z5, z6⟩ := hTRH.out.get3 hx
           subst hpa
           have hpz : (pa.add (t9 * 7)).block < wc.heap.size ∧ (pa.add (t9 * 7)).block ≠ gt := by
             obtain ⟨_, hq, _⟩ := TR.at _ _ t9 x hTRH.out hx
             rw [block_add]
             exact ⟨hq.2.1, hq.2.2⟩
           have hq : ∀ {a : Addr} {v : Value}, wc.cell? a = some v → a.block = (pa.add (t9 * 7)).block → wr.cell? a = some v := fun hc e => (World.cell?_of_block (hLp.kp.block _ (by rw [e]; exact hpz.1) (by rw [e]; exact hpz.2))).trans hc
           replace z0 := hq z0 rfl
           replace z1 := hq z1 rfl
           replace z2 := hq z2 rfl
           replace z3 := hq z3 rfl
           replace z4 := hq z4 rfl
           replace z5 := hq z5 rfl
           replace z6 := hq z6 rfl
           clear hq
           have hgeq : (0 : Int) ≤ ((t9 + 1 : Nat) : Int) - 1 := by omega
           have hHt : Hid (l.drop t9 = x :: l.drop (t9 + 1)) := hid (drop_at hx)
           have hstep := hid (hLp.step (by omega) hTp)
           have hglt : gt < wr.heap.size := (zge.1 hLp.box).1
           obtain ⟨W, hW⟩ : ∃ W, W = wr.alloc (.cells #[.int .i64 pk, .bool pneg, .slice pod pld pcd, .string pnm, .int .i64 pn, .slice pol pll pcl, .slice pob plb pcb, .int .i64 xk, .bool xneg, .slice xod xld xcd, .string xnm, .int .i64 xn, .slice xol xll xcl, .slice xob xlb xcb] 27) := ⟨_, rfl⟩
           have hbx2 : W.heap[gt]? = some (.cells #[.int .i64 xk, .bool xneg, .slice xod xld xcd, .string xnm, .int .i64 xn, .slice xol xll xcl, .slice xob xlb xcb] 27 (0, 0)) := by rw [hW]; exact (((Below.refl _ wr).alloc (Nat.le_refl _) _).block gt hglt).trans hLp.box
           obtain ⟨w0', w1', w2', w3', w4', w5', w6'⟩ := cell7 hbx2
           have hfr2 : ∀ j, W.frozen? ⟨gt, j, none⟩ = false := (res7 hbx2).fr
           rw [hW] at w0' w1' w2' w3' w4' w5' w6' hfr2
           have hmL : t9 < l.length := by omega
           have hpz1 := hpz.1
           have hpz2 := hpz.2
           clear hLp hW hbx2 hx hTp hpz
           go_wp2_with fail
           go_region
           go_wp2
           go_roundg t9
           case measure => omega
           case rel =>
             refine ⟨6, false, none, 0, 0, noS, 0, some ⟨wr.heap.size, 0, none⟩, 2, 2, none, 0, 0, by first | rfl | go_num, by omega, ?_⟩
             rw [hHt.out]
             have hh := hstep.out
             exact hh
theorem drop_cons {s : List UInt8} {i : Nat} {b : UInt8} (h : s[i]? = some b) : s.drop i = b :: s.drop (i + 1) := by
 have hj := (List.getElem?_eq_some_iff.1 h).1
 rw [List.drop_eq_getElem_cons hj]
 rw [List.getElem?_eq_getElem hj] at h
 injection h with h
 rw [h]
theorem skB_cons (c b : UInt8) (t : List UInt8) : skB c (b :: t) = (b == c) := by
 unfold skB
 cases h : (b == c) with
 | true => rw [eq_of_beq h]; simp
 | false => simp [h]
theorem skR_cons (b : UInt8) (t : List UInt8) : skR b (b :: t) = t := by simp [skR]
theorem read_lst {s : List UInt8} {i : Nat} (h : s[i]? = some 91) : readL (s.drop i) = (if skB 93 (s.drop (i + 1)) then (some nilT, skR 93 (s.drop (i + 1))) else rowL ⟨93, [], false⟩ (s.drop (i + 1))) := by
 rw [read_eq, drop_cons h]
 unfold beginL
 rw [skB_cons, if_pos (by decide), skR_cons]
 unfold opL
 cases skB 93 (s.drop (i + 1)) <;> rfl
theorem read_tup {s : List UInt8} {i : Nat} (h : s[i]? = some 123) : readL (s.drop i) = (if skB 125 (s.drop (i + 1)) then (some (tupT []), skR 125 (s.drop (i + 1))) else rowL ⟨125, [], false⟩ (s.drop (i + 1))) := by
 rw [read_eq, drop_cons h]
 unfold beginL
 rw [skB_cons, if_neg (by decide), skB_cons, if_pos (by decide), skR_cons]
 unfold opL
 cases skB 125 (s.drop (i + 1)) <;> rfl
theorem read_bin {s : List UInt8} {i : Nat} (h : s[i]? = some 60) (h2 : skB 60 (s.drop (i + 1)) = true) : readL (s.drop i) = binL (s.drop (i + 2)) := by
 rw [read_eq, drop_cons h]
 unfold beginL
 rw [skB_cons, if_neg (by decide), skB_cons, if_neg (by decide), skB_cons, if_pos (by decide), skR_cons, if_pos h2, ← (drop_skR h2).1]
 rfl
theorem read_pid {s : List UInt8} {i : Nat} (h : s[i]? = some 60) (h2 : skB 60 (s.drop (i + 1)) = false) : readL (s.drop i) = pidL (s.drop (i + 1)) := by
 rw [read_eq, drop_cons h]
 unfold beginL
 rw [skB_cons, if_neg (by decide), skB_cons, if_neg (by decide), skB_cons, if_pos (by decide), skR_cons, if_neg (by rw [h2]; simp)]
 rfl
theorem read_ref {s : List UInt8} {i : Nat} (h : s[i]? = some 35) : readL (s.drop i) = refL (s.drop (i + 1)) := by
 rw [read_eq, drop_cons h]
 unfold beginL
 rw [skB_cons, if_neg (by decide), skB_cons, if_neg (by decide), skB_cons, if_neg (by decide), skB_cons, if_pos (by decide), skR_cons]
 rfl
theorem read_int {s : List UInt8} {i : Nat} {b : UInt8} (h : s[i]? = some b) (hb : b = 45 ∨ digB b = true) : readL (s.drop i) = (if pE (b :: (s.drop (i + 1)).takeWhile digB) = 0 then some (intT (pZ (b :: (s.drop (i + 1)).takeWhile digB))) else none, (s.drop (i + 1)).dropWhile digB) := by
 rw [read_eq, drop_cons h]
 have hn : ∀ c : UInt8, (b == c) = false ∨ c = 45 ∨ digB c = true := fun c => by
   by_cases hc : b = c
   · subst hc; exact .inr hb
   · exact .inl (beq_eq_false_iff_ne.2 hc)
 have n1 : (b == 91) = false := (hn 91).elim id (fun h => h.elim (fun e => absurd e (by decide)) (fun e => absurd e (by decide)))
 have n2 : (b == 123) = false := (hn 123).elim id (fun h => h.elim (fun e => absurd e (by decide)) (fun e => absurd e (by decide)))
 have n3 : (b == 60) = false := (hn 60).elim id (fun h => h.elim (fun e => absurd e (by decide)) (fun e => absurd e (by decide)))
 have n4 : (b == 35) = false := (hn 35).elim id (fun h => h.elim (fun e => absurd e (by decide)) (fun e => absurd e (by decide)))
 unfold beginL
 rw [skB_cons, skB_cons, skB_cons, skB_cons, skB_cons, n1, n2, n3, n4]
 simp only [Bool.false_eq_true, if_false]
 by_cases h45 : b = 45
 · subst h45
   rw [if_pos (by decide), skR_cons]
   rfl
 · have hd : digB b = true := hb.elim (fun e => absurd e h45) id
   rw [if_neg (by simp [h45])]
   have h3 : digH (b :: s.drop (i + 1)) = true := hd
   rw [if_pos h3]
   unfold lfL intL
   rw [List.takeWhile_cons_of_pos hd, List.dropWhile_cons_of_pos hd]
   rfl
theorem read_nam {s : List UInt8} {i : Nat} {b : UInt8} (h : s[i]? = some b) (n1 : b ≠ 91) (n2 : b ≠ 123) (n3 : b ≠ 60) (n4 : b ≠ 35) (n5 : b ≠ 45) (hd : digB b = false) : readL (s.drop i) = nameL (s.drop i) := by
 rw [read_eq]
 rw [drop_cons h]
 unfold beginL
 have q : ∀ c : UInt8, b ≠ c → (b == c) = false := fun c hc => beq_eq_false_iff_ne.2 hc
 have h3 : digH (b :: s.drop (i + 1)) = false := hd
 rw [skB_cons, skB_cons, skB_cons, skB_cons, skB_cons, q _ n1, q _ n2, q _ n3, q _ n4, q _ n5, h3]
 simp only [Bool.false_eq_true, if_false]
 rfl
theorem read_shr {r : List UInt8} {T : Tm} (h : (readL r).1 = some T) : (readL r).2.length + 1 ≤ r.length := by
 by_cases he : r = []
 · subst he
   have e1 : (readL []).1 = none := by kernel_rfl
   rw [e1] at h; cases h
 · rw [read_eq] at h ⊢
   have hs := beginL_shr r
   cases hb : (beginL r).1 with
   | lf o =>
     rw [hb] at h hs
     simp only at h ⊢
     exact hs (by rw [h]; simp [bgH, hdO])
   | rw c =>
     rw [hb] at hs
     have h1 := hs (by simp [bgH])
     simp only
     have h2 : (rowL ⟨c, [], false⟩ (beginL r).2).2.length ≤ (beginL r).2.length := runL_le _ _ _ _
     omega
theorem pre_lt {s : List UInt8} {i : Nat} {b : UInt8} (h : s[i]? = some b) : preB [60, 60] (s.drop i) = (b == 60 && skB 60 (s.drop (i + 1))) := by
 rw [pre_two, drop_cons h, skB_cons]
 by_cases hb : b = 60
 · subst hb; rw [skR_cons]
 · have : (b == 60) = false := beq_eq_false_iff_ne.2 hb
   rw [this]; rfl
theorem num_end {s : List UInt8} {i : Nat} (h : i + 1 ≤ s.length) : s.drop (i + 1 + ((s.drop (i + 1)).takeWhile digB).length) = (s.drop (i + 1)).dropWhile digB ∧ i + 1 + ((s.drop (i + 1)).takeWhile digB).length ≤ s.length := by
 constructor
 · rw [← List.drop_drop, drop_tw]
 · have := tw_len_le (r := s.drop (i + 1))
   rw [List.length_drop] at this
   omega
structure TmB (g : Nat) (s : List UInt8) (i n : Nat) (w : World) (wb : World) : Prop where
 rd : RRf g s i false (n + 1) wb
 kp : Kpt (fun q => q = g) w wb
 rb : wb.heap[w.heap.size]? = some (.cells zr7 27 (0, 0))
theorem TmB.on {g : Nat} {s : List UInt8} {i n : Nat} {w wb w' : World} (h : TmB g s i n w wb) (hg : g < w.heap.size) (hK : Kpt (fun q => q = g) wb w') : Kpt (fun q => q = g) w w' ∧ w'.heap[w.heap.size]? = some (.cells zr7 27 (0, 0)) :=
 ⟨h.kp.trans hK, (hK.block _ (zge.1 h.rb).1 (by omega)).trans h.rb⟩
theorem bxs0 {g : Nat} {u v : Value} {w : World} (h : Box g u v w) (x : Value) : Box g x v (w.setCell ⟨g, 0, none⟩ x) :=
 ⟨World.cell?_setCell_same _ _ _ h.1, (World.cell?_setCell_other w ⟨g, 0, none⟩ ⟨g, 1, none⟩ _ (by simp)).trans h.2.1, (World.frozen?_setCells g [x] 0 w ⟨g, 0, none⟩).trans h.2.2.1, (World.frozen?_setCells g [x] 0 w ⟨g, 1, none⟩).trans h.2.2.2⟩
theorem bxs1 {g : Nat} {u v : Value} {w : World} (h : Box g u v w) (x : Value) : Box g u x (w.setCell ⟨g, 1, none⟩ x) :=
 ⟨(World.cell?_setCell_other w ⟨g, 1, none⟩ ⟨g, 0, none⟩ _ (by simp)).trans h.1, World.cell?_setCell_same _ _ _ h.2.1, (World.frozen?_setCells g [x] 1 w ⟨g, 0, none⟩).trans h.2.2.1, (World.frozen?_setCells g [x] 1 w ⟨g, 1, none⟩).trans h.2.2.2⟩
theorem isN_set {v : Value} {Z : Int} {K : Nat} {w : World} {a : Addr} {u y : Value} (h : IsN v Z K w) (hc : w.cell? a = some u) (hu : ∀ k x, u ≠ .int k x) : IsN v Z K (w.setCell a y) := by
 obtain ⟨neg, o, l, c, e, hL, h2⟩ := h
 refine ⟨neg, o, l, c, e, fun j x hx => ?_, h2⟩
 obtain ⟨a', ha, hcell⟩ := hL j x hx
 refine ⟨a', ha, ?_⟩
 have hne : a ≠ a'.add j := fun e => by
   rw [e, hcell] at hc
   injection hc with hc
   exact hu _ _ hc.symm
 rw [World.cell?_setCell_other _ _ _ _ hne]
 exact hcell
end Go.Proofs.YtlojfmlaookpmaaGreatDoor
