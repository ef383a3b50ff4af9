/- Texts of mine, one behind the other: TextRdD, TextRdE, TextRdF. -/
import Derived.Test.YtlojfmlaookpmaaGreatDoorSqR
import Derived.Deep.RegionHeld3
import Derived.Deep.CutRange
import Derived.Test.YtlojfmlaookpmaaGreatDoorSqJ
import Derived.Deep.RegionLaw
set_option linter.unusedSimpArgs false
set_option linter.unusedVariables false
set_option maxRecDepth 2000
open Array renaming getElem?_eq_some_iff → zge
namespace Go.Proofs.YtlojfmlaookpmaaGreatDoor
open Go.ChangeShapes Go.WideShapes Go.ChangeAt Go.RowKit Go.Shelf
def LfV (Z : Nat → Prop) (w : World) (o : Option Tm) (v : Value) : Prop :=
 match o with
 | none => v = .nilIface
 | some T => ∃ x, v = .iface 27 x ∧ TV Z w T x
def NewZ (Z : Nat → Prop) (S : Nat) (w : World) : Nat → Prop := fun k => Z k ∨ (S ≤ k ∧ k < w.heap.size)
theorem TR.get3 {Z : Nat → Prop} {w : World} {l : List Tm} {o : Option Addr} {i : Nat} {t : Tm} (h : TR Z w l o) (ht : l[i]? = some t) :
   ∃ a k neg od ld cd nm n ol ll cl ob lb cb, o = some a ∧ TV Z w t (tmV k neg (.slice od ld cd) nm n (.slice ol ll cl) (.slice ob lb cb)) ∧ w.cell? (a.add (i * 7)) = some (.int .i64 k) ∧ w.cell? ⟨(a.add (i * 7)).block, (a.add (i * 7)).off + 1, none⟩ = some (.bool neg) ∧ w.cell? ⟨(a.add (i * 7)).block, (a.add (i * 7)).off + 2, none⟩ = some (.slice od ld cd) ∧ w.cell? ⟨(a.add (i * 7)).block, (a.add (i * 7)).off + 3, none⟩ = some (.string nm) ∧ w.cell? ⟨(a.add (i * 7)).block, (a.add (i * 7)).off + 4, none⟩ = some (.int .i64 n) ∧ w.cell? ⟨(a.add (i * 7)).block, (a.add (i * 7)).off + 5, none⟩ = some (.slice ol ll cl) ∧ w.cell? ⟨(a.add (i * 7)).block, (a.add (i * 7)).off + 6, none⟩ = some (.slice ob lb cb) := by
 obtain ⟨a, rfl⟩ : ∃ a, o = some a := by
   cases l with
   | nil => simp at ht
   | cons q qs =>
     unfold TR at h
     obtain ⟨a, _, ha, _⟩ := h
     exact ⟨a, ha⟩
 obtain ⟨vt, hZ, hA, hTv⟩ := TR.at _ _ i t h ht
 rw [Nat.mul_comm] at hA
 obtain ⟨k', neg', od', ld', cd', nm', n', ol', ll', cl', ob', lb', cb', rfl⟩ := hTv.form
 exact ⟨a, k', neg', od', ld', cd', nm', n', ol', ll', cl', ob', lb', cb', rfl, hTv, hA.tm⟩
theorem cell3 {w : World} {g : Nat} {a0 a1 a2 : Value} {T : TypeId} (h : w.heap[g]? = some (.cells #[a0, a1, a2] T (0, 0))) :
   w.cell? ⟨g, 0, none⟩ = some a0 ∧ w.cell? ⟨g, 1, none⟩ = some a1 ∧ w.cell? ⟨g, 2, none⟩ = some a2 := by
 simp [World.cell?, h]
set_option maxHeartbeats 1000000 in
theorem whole_t (Z : Nat → Prop) (b : Nat) (its : List Tm) (bar : Bool) (ol : Option Addr) (cl : Nat) (w : World) (hb : w.heap[b]? = some (.cells #[.int .i32 125, .slice ol its.length cl, .bool bar] 97 (0, 0))) (hcl : its.length ≤ cl) (hT : TR Z w its ol) :
   Calls Tryz.prog 59 #[.pointer (some ⟨b, 0, none⟩)] w fun e w' => ∃ v, e = .returned v ∧ LfV (NewZ Z w.heap.size w') w' (some (tupT its)) v ∧ Below w.heap.size w w' := by
 obtain ⟨y0, y1, y2⟩ := cell3 hb
 have hTT : Hid (TV Z w (tupT its) (tmV 4 false nilS noS 0 (.slice ol its.length cl) nilS)) := hid (by
   unfold tupT TV
   exact ⟨none, 0, ol, cl, none, 0, rfl, Ls.nil _ _ _, by simp, Lm.nil _, LsB.nil _ _ _, by simp, hcl, hT⟩)
 clear hT hb hcl
 go_enter Tryz.func59, Tryz.ntmps59
 go_wp2
 go_ret
 exact ⟨_, rfl, ⟨_, rfl, TV.mono (fun k _ hz => .inl hz) _ _ hTT.out⟩, Below.refl _ _⟩
structure Lp (Z : Nat → Prop) (S gt : Nat) (w : World) (T : Tm) (k : Int) (neg : Bool) (D : Value) (nm : ByteArray) (n : Int) (L Bb : Value) (wr : World) : Prop where
 tv : TV (fun q => Z q ∨ (S ≤ q ∧ q < wr.heap.size ∧ q ≠ gt)) wr T (tmV k neg D nm n L Bb)
 box : wr.heap[gt]? = some (.cells #[.int .i64 k, .bool neg, D, .string nm, .int .i64 n, L, Bb] 27 (0, 0))
 bel : Below S w wr
theorem Lp.step {Z : Nat → Prop} {S gt : Nat} {w wr : World} {T t : Tm} {k : Int} {neg : Bool} {od : Option Addr} {ld cd : Nat} {nm : ByteArray} {n : Int} {ol : Option Addr} {ll cl : Nat} {ob : Option Addr} {lb cb : Nat}
   {k' : Int} {neg' : Bool} {od' : Option Addr} {ld' cd' : Nat} {nm' : ByteArray} {n' : Int} {ol' : Option Addr} {ll' cl' : Nat} {ob' : Option Addr} {lb' cb' : Nat}
   (h : Lp Z S gt w T k neg (.slice od ld cd) nm n (.slice ol ll cl) (.slice ob lb cb) wr) (hS : S = w.heap.size) (hgt : S ≤ gt) (hz : ∀ q, Z q → q < S) (ht : TV Z w t (tmV k' neg' (.slice od' ld' cd') nm' n' (.slice ol' ll' cl') (.slice ob' lb' cb'))) :
   Lp Z S gt w (consT t T) 6 false nilS noS 0 (.slice (some ⟨wr.heap.size, 0, none⟩) 2 2) nilS (((((((((wr.setCell ⟨gt, 0, none⟩ (.int .i64 6)).setCell ⟨gt, 1, none⟩ (.bool false)).setCell ⟨gt, 2, none⟩ nilS).setCell ⟨gt, 3, none⟩ (.string noS)).setCell ⟨gt, 4, none⟩ (.int .i64 0)).setCell ⟨gt, 5, none⟩ (.slice (some ⟨wr.heap.size, 0, none⟩) 2 2)).setCell ⟨gt, 6, none⟩ nilS).alloc (.cells #[.int .i64 k', .bool neg', .slice od' ld' cd', .string nm', .int .i64 n', .slice ol' ll' cl', .slice ob' lb' cb', .int .i64 k, .bool neg, .slice od ld cd, .string nm, .int .i64 n, .slice ol ll cl, .slice ob lb cb] 27)).drew) := by
 have hgl := (zge.1 h.box).1
 have hon := only_put wr gt (.int .i64 6) (.bool false) nilS (.string noS) (.int .i64 0) (.slice (some ⟨wr.heap.size, 0, none⟩) 2 2) nilS
 have hb2 := heap_put7 h.box (.int .i64 6) (.bool false) nilS (.string noS) (.int .i64 0) (.slice (some ⟨wr.heap.size, 0, none⟩) 2 2) nilS
 generalize (((((((wr.setCell ⟨gt, 0, none⟩ (.int .i64 6)).setCell ⟨gt, 1, none⟩ (.bool false)).setCell ⟨gt, 2, none⟩ nilS).setCell ⟨gt, 3, none⟩ (.string noS)).setCell ⟨gt, 4, none⟩ (.int .i64 0)).setCell ⟨gt, 5, none⟩ (.slice (some ⟨wr.heap.size, 0, none⟩) 2 2)).setCell ⟨gt, 6, none⟩ nilS) = W at *
 have hWs : W.heap.size = wr.heap.size := hon.2.1
 have hBd : Below W.heap.size W (W.alloc (.cells #[.int .i64 k', .bool neg', .slice od' ld' cd', .string nm', .int .i64 n', .slice ol' ll' cl', .slice ob' lb' cb', .int .i64 k, .bool neg, .slice od ld cd, .string nm, .int .i64 n, .slice ol ll cl, .slice ob lb cb] 27)) := (Below.refl _ W).alloc (Nat.le_refl _) _
 have hnw := heap_alloc_new W (.cells #[.int .i64 k', .bool neg', .slice od' ld' cd', .string nm', .int .i64 n', .slice ol' ll' cl', .slice ob' lb' cb', .int .i64 k, .bool neg, .slice od ld cd, .string nm, .int .i64 n, .slice ol ll cl, .slice ob lb cb] 27)
 have hsz : (W.alloc (.cells #[.int .i64 k', .bool neg', .slice od' ld' cd', .string nm', .int .i64 n', .slice ol' ll' cl', .slice ob' lb' cb', .int .i64 k, .bool neg, .slice od ld cd, .string nm, .int .i64 n, .slice ol ll cl, .slice ob lb cb] 27)).heap.size = W.heap.size + 1 := by simp
 rw [hWs] at hnw
 generalize (W.alloc (.cells #[.int .i64 k', .bool neg', .slice od' ld' cd', .string nm', .int .i64 n', .slice ol' ll' cl', .slice ob' lb' cb', .int .i64 k, .bool neg, .slice od ld cd, .string nm, .int .i64 n, .slice ol ll cl, .slice ob lb cb] 27)) = V at *
 have hVs : V.drew.heap.size = wr.heap.size + 1 := hsz.trans (by rw [hWs])
 have hVd : ∀ q : Nat, V.drew.heap[q]? = V.heap[q]? := fun q => rfl
 have hSw := h.bel.size
 have e1 : ∀ q, q < wr.heap.size → q ≠ gt → V.drew.heap[q]? = wr.heap[q]? := fun q hq hne => (hVd q).trans ((hBd.block q (by omega)).trans (hon.2.2 q hne))
 have e2 : ∀ q, q < S → V.drew.heap[q]? = w.heap[q]? := fun q hq => (e1 q (by omega) (by omega)).trans (h.bel.block q hq)
 have t1 : TV (fun q => Z q ∨ (S ≤ q ∧ q < V.drew.heap.size ∧ q ≠ gt)) V.drew t (tmV k' neg' (.slice od' ld' cd') nm' n' (.slice ol' ll' cl') (.slice ob' lb' cb')) :=
   TV.mono (fun q _ hq => .inl hq) _ _ (TV.zs (fun q hq => e2 q (hz q hq)) _ _ ht)
 have t2 : TV (fun q => Z q ∨ (S ≤ q ∧ q < V.drew.heap.size ∧ q ≠ gt)) V.drew T (tmV k neg (.slice od ld cd) nm n (.slice ol ll cl) (.slice ob lb cb)) :=
   TV.mono (fun q _ hq => hq.elim (fun a => .inl a) (fun a => .inr ⟨a.1, by omega, a.2.2⟩)) _ _ (TV.zs (fun q hq => by
     rcases hq with hq | hq
     · exact e1 q (by have := hz q hq; omega) (by have := hz q hq; omega)
     · exact e1 q hq.2.1 hq.2.2) _ _ h.tv)
 refine ⟨?_, (hVd gt).trans ((hBd.block gt (by omega)).trans hb2), ?_⟩
 · unfold consT TV
   exact ⟨none, 0, some ⟨wr.heap.size, 0, none⟩, 2, none, 0, rfl, Ls.nil _ _ _, by simp, Lm.nil _, LsB.nil _ _ _, by simp, by simp, tr_two t1 t2 ((hVd _).trans hnw) (.inr ⟨by omega, by omega, by omega⟩)⟩
 · exact ((h.bel.trans (hon.below (B := S) hgt)).trans (below_le hBd (by omega))).drew
theorem Lp.first {Z : Nat → Prop} {S gt : Nat} {w wc : World} {E : Tm} {a0 a1 a2 a3 a4 a5 a6 : Value} {k : Int} {neg : Bool} {od : Option Addr} {ld cd : Nat} {nm : ByteArray} {n : Int} {ol : Option Addr} {ll cl : Nat} {ob : Option Addr} {lb cb : Nat}
   (hbx : wc.heap[gt]? = some (.cells #[a0, a1, a2, a3, a4, a5, a6] 27 (0, 0))) (hbel : Below S w wc) (hS : S = w.heap.size) (hgt : S ≤ gt) (hz : ∀ q, Z q → q < S) (hT : TV Z w E (tmV k neg (.slice od ld cd) nm n (.slice ol ll cl) (.slice ob lb cb))) :
   Lp Z S gt w E k neg (.slice od ld cd) nm n (.slice ol ll cl) (.slice ob lb cb) (((((((wc.setCell ⟨gt, 0, none⟩ (.int .i64 k)).setCell ⟨gt, 1, none⟩ (.bool neg)).setCell ⟨gt, 2, none⟩ (.slice od ld cd)).setCell ⟨gt, 3, none⟩ (.string nm)).setCell ⟨gt, 4, none⟩ (.int .i64 n)).setCell ⟨gt, 5, none⟩ (.slice ol ll cl)).setCell ⟨gt, 6, none⟩ (.slice ob lb cb)).drew := by
 have hon := only_put wc gt (.int .i64 k) (.bool neg) (.slice od ld cd) (.string nm) (.int .i64 n) (.slice ol ll cl) (.slice ob lb cb)
 have hb2 := heap_put7 hbx (.int .i64 k) (.bool neg) (.slice od ld cd) (.string nm) (.int .i64 n) (.slice ol ll cl) (.slice ob lb cb)
 generalize (((((((wc.setCell ⟨gt, 0, none⟩ (.int .i64 k)).setCell ⟨gt, 1, none⟩ (.bool neg)).setCell ⟨gt, 2, none⟩ (.slice od ld cd)).setCell ⟨gt, 3, none⟩ (.string nm)).setCell ⟨gt, 4, none⟩ (.int .i64 n)).setCell ⟨gt, 5, none⟩ (.slice ol ll cl)).setCell ⟨gt, 6, none⟩ (.slice ob lb cb)) = W at *
 have hVd : ∀ q : Nat, W.drew.heap[q]? = W.heap[q]? := fun q => rfl
 refine ⟨TV.mono (fun q _ hq => .inl hq) _ _ (TV.zs (fun q hq => ?_) _ _ hT), (hVd gt).trans hb2, (hbel.trans (hon.below (B := S) hgt)).drew⟩
 exact (hVd q).trans ((hon.2.2 q (by have := hz q hq; omega)).trans (hbel.block q (hz q hq)))
theorem put_far {w : World} {b j g : Nat} {v : Value} (h : w.cell? ⟨b, j, none⟩ = some v) (hne : b ≠ g) (b0 b1 b2 b3 b4 b5 b6 : Value) : (((((((w.setCell ⟨g, 0, none⟩ b0).setCell ⟨g, 1, none⟩ b1).setCell ⟨g, 2, none⟩ b2).setCell ⟨g, 3, none⟩ b3).setCell ⟨g, 4, none⟩ b4).setCell ⟨g, 5, none⟩ b5).setCell ⟨g, 6, none⟩ b6).cell? ⟨b, j, none⟩ = some v :=
 (World.cell?_of_block (a := ⟨b, j, none⟩) ((only_put w g b0 b1 b2 b3 b4 b5 b6).2.2 b hne)).trans h
set_option maxHeartbeats 8000000 in
theorem whole_l (Z : Nat → Prop) (b : Nat) (its : List Tm) (ol : Option Addr) (cl : Nat) (w : World) (hb : w.heap[b]? = some (.cells #[.int .i32 93, .slice ol its.length cl, .bool false] 97 (0, 0))) (hn : its.length ≤ 900000) (hT : TR Z w its ol) (hz : ∀ q, Z q → q < w.heap.size) :
   Calls Tryz.prog 59 #[.pointer (some ⟨b, 0, none⟩)] w fun e w' => ∃ v, e = .returned v ∧ LfV (NewZ Z w.heap.size w') w' (some (consL its nilT)) v ∧ Below w.heap.size w w' := by
 obtain ⟨y0, y1, y2⟩ := cell3 hb
 have hTR := hT
 clear hT
 have hbl := (zge.1 hb).1
 have hbne : b ≠ w.heap.size := by omega
 go_enter Tryz.func59, Tryz.ntmps59
 go_upto_region 3 with fail
 go_cut [3, 4] from 18 to 26 (fun p3 p4 wx => p3 = .slice ol its.length cl ∧ ∃ gt, p4 = .pointer (some ⟨gt, 0, none⟩) ∧ w.heap.size ≤ gt ∧ wx.heap[gt]? = some (.cells #[.int .i64 5, .bool false, nilS, .string noS, .int .i64 0, nilS, nilS] 27 (0, 0)) ∧ Below w.heap.size w wx)
 case first =>
   go_region_held3 (fun w' => w'.cell? ⟨b, 0, none⟩ = some (.int .i32 93) ∧ w'.cell? ⟨b, 1, none⟩ = some (.slice ol its.length cl)) (first | (refine ⟨?_, ?_⟩ <;> (with_reducible refine put_far (g := w.heap.size) ?_ ?_ _ _ _ _ _ _ _) <;> first | assumption | omega) | go_keep) (first | (
     go_at_call 50
     refine (Nil_w _).mono ?_
     rintro e w3 ⟨rfl, b3⟩
     have hs3 := b3.size
     have hb3 : Below w.heap.size w w3 := by first | exact b3 | exact ((Below.refl w.heap.size w).drew).trans b3 | exact (((Below.refl w.heap.size w).drew).alloc (Nat.le_refl _) _).trans (below_le b3 (by simp))
     have z0 : w3.cell? ⟨b, 0, none⟩ = some (.int .i32 93) := (hb3.cell (World.block_lt_of_cell? _ _ y0)).trans y0
     have z1 : w3.cell? ⟨b, 1, none⟩ = some (.slice ol its.length cl) := (hb3.cell (World.block_lt_of_cell? _ _ y1)).trans y1
     first
       | (have kM3 : w3.heap[w.heap.size]? = some (.cells zC 27 (0, 0)) := (b3.block _ (by simp)).trans (heap_alloc_new _ _)
          obtain ⟨m0, m1, m2, m3, m4, m5, m6⟩ := cell7 kM3
          have mf := (res7 kM3).fr)
       | skip))
   all_goals (go_wp2_with fail; go_meet)
   · exact ⟨rfl, w3.heap.size, rfl, hb3.size, heap_alloc_new w3 _, hb3.alloc hb3.size _⟩
   · exact ⟨rfl, w.heap.size, rfl, Nat.le_refl _, heap_put7 kM3 _ _ _ _ _ _ _, hb3.trans ((only_put w3 w.heap.size _ _ _ _ _ _ _).below (B := w.heap.size) (Nat.le_refl _))⟩
 case rest =>
   obtain ⟨rfl, gt, rfl, hgt, hbx, hbel⟩ := hcut
   have hgl := (zge.1 hbx).1
   have hLp0 : Hid (Lp Z w.heap.size gt w nilT 5 false nilS noS 0 nilS nilS wc) := hid ⟨by unfold nilT TV; exact ⟨none, 0, none, 0, none, 0, rfl, Ls.nil _ _ _, by simp, Lm.nil _, LsB.nil _ _ _, by simp, by simp, by unfold TR; trivial⟩, hbx, hbel⟩
   replace y2 := (hbel.cell (World.block_lt_of_cell? _ _ y2)).trans y2
   have hLi : Hid (its ++ [] = its) := hid (List.append_nil _)
   clear y0 y1 hb hbx hbel
   have hnz : (its.length : Int) ≤ 900000 := by omega
   go_wp2_with fail
   have hgtw : w.heap.size ≤ gt := hgt
   have hzz := hid hz
   have hTRH := hid hTR
   go_loopg [6] its.length (fun t v6 wr => ∃ (k : Int) (neg : Bool) (od : Option Addr) (ld cd : Nat) (nm : ByteArray) (n : Int) (ol1 : Option Addr) (ll cl1 : Nat) (ob : Option Addr) (lb cb : Nat), v6 = .int .i64 ((t : Int) - 1) ∧ t ≤ its.length ∧ Lp Z w.heap.size gt w (consL (its.drop t) nilT) k neg (.slice od ld cd) nm n (.slice ol1 ll cl1) (.slice ob lb cb) wr)
   case atStart => exact ⟨5, false, none, 0, 0, noS, 0, none, 0, 0, none, 0, 0, by first | rfl | go_num, Nat.le_refl _, by rw [List.drop_length]; exact hLp0.out⟩
   case round =>
     obtain ⟨k, neg, od, ld, cd, nm, n, ol1, ll, cl1, ob, lb, cb, rfl, hgk, hLp⟩ := hrel
     generalize gk = m at *
     obtain ⟨c0, c1, c2, c3, c4, c5, c6⟩ := cell7 hLp.box
     have hfr : ∀ j, wr.frozen? ⟨gt, j, none⟩ = false := (res7 hLp.box).fr
     cases m with
     | zero =>
       rw [List.drop_zero] at hLp
       have hLpH := hid hLp
       clear hLp
       go_wp2
       go_ret
       refine ⟨_, rfl, ⟨_, rfl, TV.mono (fun q _ hq => hq.elim (fun a => .inl a) (fun a => .inr ⟨a.1, a.2.1⟩)) _ _ hLpH.out.tv⟩, hLpH.out.bel⟩
     | succ m =>
       obtain ⟨t, ht⟩ : ∃ t, its[m]? = some t := ⟨its[m]'(by omega), by simp⟩
       have hta : (its)[m]? = some t := by first | exact ht | (rw [List.getElem?_append_left (by omega)]; exact ht)
       obtain ⟨pa, pk, pneg, pod, pld, pcd, pnm, pn, pol, pll, pcl, pob, plb, pcb, hpa, hTp, y0, y1, y2, y3, y4, y5, y6⟩ := hTRH.out.get3 hta
       first | subst hpa | obtain rfl := Option.some.inj hpa
       have hpz : Hid (pa.block < w.heap.size) := hid (hzz.out _ (by
         obtain ⟨_, hq, _⟩ := TR.at _ _ m t hTRH.out hta
         exact hq))
       have hq : ∀ {x : Addr} {v : Value}, w.cell? x = some v → wr.cell? x = some v := fun hc => (hLp.bel.cell (World.block_lt_of_cell? _ _ hc)).trans hc
       replace y0 := hq y0
       replace y1 := hq y1
       replace y2 := hq y2
       replace y3 := hq y3
       replace y4 := hq y4
       replace y5 := hq y5
       replace y6 := hq y6
       clear hq
       have hgeq : (0 : Int) ≤ ((m + 1 : Nat) : Int) - 1 := by omega
       have hHt : Hid (its.drop m = t :: its.drop (m + 1)) := hid (drop_at ht)
       have hstep := hid (hLp.step rfl hgtw hzz.out hTp)
       have hglt : gt < wr.heap.size := (zge.1 hLp.box).1
       obtain ⟨W, hW⟩ : ∃ W, W = wr.alloc (.cells #[.int .i64 pk, .bool pneg, .slice pod pld pcd, .string pnm, .int .i64 pn, .slice pol pll pcl, .slice pob plb pcb, .int .i64 k, .bool neg, .slice od ld cd, .string nm, .int .i64 n, .slice ol1 ll cl1, .slice ob lb cb] 27) := ⟨_, rfl⟩
       have hbx2 : W.heap[gt]? = some (.cells #[.int .i64 k, .bool neg, .slice od ld cd, .string nm, .int .i64 n, .slice ol1 ll cl1, .slice ob lb cb] 27 (0, 0)) := by rw [hW]; exact (((Below.refl _ wr).alloc (Nat.le_refl _) _).block gt hglt).trans hLp.box
       obtain ⟨z0, z1, z2, z3, z4, z5, z6⟩ := cell7 hbx2
       have hfr2 : ∀ j, W.frozen? ⟨gt, j, none⟩ = false := (res7 hbx2).fr
       rw [hW] at z0 z1 z2 z3 z4 z5 z6 hfr2
       have hmL : m < its.length := by omega
       clear hLp hW hbx2 ht hta hTp
       go_wp2_with fail
       go_region
       go_wp2
       go_roundg m
       case measure => omega
       case rel =>
         refine ⟨6, false, none, 0, 0, noS, 0, some ⟨wr.heap.size, 0, none⟩, 2, 2, none, 0, 0, by first | rfl | go_num, by omega, ?_⟩
         rw [hHt.out]
         have hh := hstep.out
         exact hh
set_option maxHeartbeats 8000000 in
theorem whole_b (Z : Nat → Prop) (b : Nat) (L : List Tm) (E : Tm) (pa : Addr) (cl : Nat) (w : World) (hb : w.heap[b]? = some (.cells #[.int .i32 93, .slice (some pa) (L.length + 1) cl, .bool true] 97 (0, 0))) (hn : L.length ≤ 900000) (hcl : L.length + 1 ≤ cl) (hT : TR Z w (L ++ [E]) (some pa)) (hz : ∀ q, Z q → q < w.heap.size) :
   Calls Tryz.prog 59 #[.pointer (some ⟨b, 0, none⟩)] w fun e w' => ∃ v, e = .returned v ∧ LfV (NewZ Z w.heap.size w') w' (if E.kind = 5 ∨ E.kind = 6 then none else some (consL L E)) v ∧ Below w.heap.size w w' := by
 obtain ⟨y0, y1, y2⟩ := cell3 hb
 have hTR := hT
 obtain ⟨pa', pk, pneg, pod, pld, pcd, pnm, pn, pol, pll, pcl, pob, plb, pcb, hpa, hTp, t0, t1, t2, t3, t4, t5, t6⟩ := hT.get3 (i := L.length) (t := E) (by simp)
 obtain rfl := Option.some.inj hpa
 clear hT hpa
 have hEk : E.kind = pk := by
   cases E with | mk ek en ed em ei el eb =>
   unfold TV at hTp
   obtain ⟨od', cd', ol', cl', ob', cb', e, _⟩ := hTp
   simp only [tmV, Value.agg.injEq, Array.mk.injEq, List.cons.injEq, Value.int.injEq, true_and] at e
   exact e.1.symm
 rw [hEk]
 obtain ⟨R, hR⟩ : ∃ R, (if pk = 5 ∨ pk = 6 then none else some (consL L E)) = R := ⟨_, rfl⟩
 rw [hR]
 have hRH := hid hR
 have hbl := (zge.1 hb).1
 have hbne : b ≠ w.heap.size := by omega
 clear hR hEk
 go_enter Tryz.func59, Tryz.ntmps59
 go_upto_region 3 with fail
 go_cut [3, 4] from 18 to 26 (fun p3 p4 wx => p3 = .slice (some pa) (L.length + 1) cl ∧ ∃ gt, p4 = .pointer (some ⟨gt, 0, none⟩) ∧ w.heap.size ≤ gt ∧ wx.heap[gt]? = some (.cells #[.int .i64 5, .bool false, nilS, .string noS, .int .i64 0, nilS, nilS] 27 (0, 0)) ∧ Below w.heap.size w wx)
 case first =>
   clear t0 t1 t2 t3 t4 t5 t6
   go_region_held3 (fun w' => w'.cell? ⟨b, 0, none⟩ = some (.int .i32 93) ∧ w'.cell? ⟨b, 1, none⟩ = some (.slice (some pa) (L.length + 1) cl)) (first | (refine ⟨?_, ?_⟩ <;> (with_reducible refine put_far (g := w.heap.size) ?_ ?_ _ _ _ _ _ _ _) <;> first | assumption | omega) | go_keep) (first | (
     go_at_call 50
     refine (Nil_w _).mono ?_
     rintro e w3 ⟨rfl, b3⟩
     have hs3 := b3.size
     have hb3 : Below w.heap.size w w3 := by first | exact b3 | exact ((Below.refl w.heap.size w).drew).trans b3 | exact (((Below.refl w.heap.size w).drew).alloc (Nat.le_refl _) _).trans (below_le b3 (by simp))
     have z0 : w3.cell? ⟨b, 0, none⟩ = some (.int .i32 93) := (hb3.cell (World.block_lt_of_cell? _ _ y0)).trans y0
     have z1 : w3.cell? ⟨b, 1, none⟩ = some (.slice (some pa) (L.length + 1) cl) := (hb3.cell (World.block_lt_of_cell? _ _ y1)).trans y1
     first
       | (have kM3 : w3.heap[w.heap.size]? = some (.cells zC 27 (0, 0)) := (b3.block _ (by simp)).trans (heap_alloc_new _ _)
          obtain ⟨m0, m1, m2, m3, m4, m5, m6⟩ := cell7 kM3
          have mf := (res7 kM3).fr)
       | skip))
   all_goals (go_wp2_with fail; go_meet)
   · exact ⟨rfl, w3.heap.size, rfl, hb3.size, heap_alloc_new w3 _, hb3.alloc hb3.size _⟩
   · exact ⟨rfl, w.heap.size, rfl, Nat.le_refl _, heap_put7 kM3 _ _ _ _ _ _ _, hb3.trans ((only_put w3 w.heap.size _ _ _ _ _ _ _).below (B := w.heap.size) (Nat.le_refl _))⟩
 case rest =>
   obtain ⟨rfl, gt, rfl, hgt, hbx, hbel⟩ := hcut
   have hgl := (zge.1 hbx).1
   have hq : ∀ {x : Addr} {v : Value}, w.cell? x = some v → wc.cell? x = some v := fun hc => (hbel.cell (World.block_lt_of_cell? _ _ hc)).trans hc
   replace y2 := hq y2
   replace t0 := hq t0
   replace t1 := hq t1
   replace t2 := hq t2
   replace t3 := hq t3
   replace t4 := hq t4
   replace t5 := hq t5
   replace t6 := hq t6
   clear hq
   obtain ⟨c0, c1, c2, c3, c4, c5, c6⟩ := cell7 hbx
   have hfr : ∀ j, wc.frozen? ⟨gt, j, none⟩ = false := (res7 hbx).fr
   have hLp1 := Lp.first hbx hbel rfl hgt hz hTp
   obtain ⟨W, hW⟩ : ∃ W, W = (((((((wc.setCell ⟨gt, 0, none⟩ (.int .i64 pk)).setCell ⟨gt, 1, none⟩ (.bool pneg)).setCell ⟨gt, 2, none⟩ (.slice pod pld pcd)).setCell ⟨gt, 3, none⟩ (.string pnm)).setCell ⟨gt, 4, none⟩ (.int .i64 pn)).setCell ⟨gt, 5, none⟩ (.slice pol pll pcl)).setCell ⟨gt, 6, none⟩ (.slice pob plb pcb)).drew := ⟨_, rfl⟩
   rw [← hW] at hLp1
   have hLp0 := hid hLp1
   obtain ⟨x0, x1, x2, x3, x4, x5, x6⟩ := cell7 hLp1.box
   have hWH := hid hW
   clear hW hLp1
   have hLi : Hid (L ++ [E] = L ++ [E]) := hid rfl
   have hlz : (L.length : Int) ≤ 900000 := by omega
   have hlc : (L.length : Int) ≤ (cl : Int) := by omega
   clear y0 y1 hb hbx hbel hTp
   go_upto_region 6 with fail
   go_region
   rw [← hWH.out]
   clear hWH c0 c1 c2 c3 c4 c5 c6 t0 t1 t2 t3 t4 t5 t6 y2
   by_cases h5 : pk = 5
   · have e5 : (pk == 5) = true := by simp [h5]
     have hR2 : Hid (R = none) := hid (by rw [← hRH.out, if_pos (.inl h5)])
     have hbl2 := hid hLp0.out.bel
     clear h5 hRH
     go_wp2
     go_ret
     rw [hR2.out]
     exact ⟨_, rfl, rfl, hbl2.out⟩
   · have e5 : (pk == 5) = false := by simp [h5]
     by_cases h6 : pk = 6
     · have e6 : (pk == 6) = true := by simp [h6]
       have hR2 : Hid (R = none) := hid (by rw [← hRH.out, if_pos (.inr h6)])
       have hbl2 := hid hLp0.out.bel
       clear h5 h6 hRH
       go_wp2
       go_ret
       rw [hR2.out]
       exact ⟨_, rfl, rfl, hbl2.out⟩
     · have e6 : (pk == 6) = false := by simp [h6]
       have hR2 : R = some (consL L E) := by rw [← hRH.out, if_neg (by simp [h5, h6])]
       clear h5 h6 hRH
       subst hR2
       go_wp2_with fail
       have hgtw : w.heap.size ≤ gt := hgt
       have hzz := hid hz
       have hTRH := hid hTR
       go_loopg [6] L.length (fun t v6 wr => ∃ (k : Int) (neg : Bool) (od : Option Addr) (ld cd : Nat) (nm : ByteArray) (n : Int) (ol1 : Option Addr) (ll cl1 : Nat) (ob : Option Addr) (lb cb : Nat), v6 = .int .i64 ((t : Int) - 1) ∧ t ≤ L.length ∧ Lp Z w.heap.size gt w (consL (L.drop t) E) k neg (.slice od ld cd) nm n (.slice ol1 ll cl1) (.slice ob lb cb) wr)
       case atStart => exact ⟨pk, pneg, pod, pld, pcd, pnm, pn, pol, pll, pcl, pob, plb, pcb, by first | rfl | go_num, Nat.le_refl _, by rw [List.drop_length]; exact hLp0.out⟩
       case round =>
         obtain ⟨k, neg, od, ld, cd, nm, n, ol1, ll, cl1, ob, lb, cb, rfl, hgk, hLp⟩ := hrel
         generalize gk = m at *
         obtain ⟨c0, c1, c2, c3, c4, c5, c6⟩ := cell7 hLp.box
         have hfr : ∀ j, wr.frozen? ⟨gt, j, none⟩ = false := (res7 hLp.box).fr
         cases m with
         | zero =>
           rw [List.drop_zero] at hLp
           have hLpH := hid hLp
           clear hLp
           go_wp2
           go_ret
           refine ⟨_, rfl, ⟨_, rfl, TV.mono (fun q _ hq => hq.elim (fun a => .inl a) (fun a => .inr ⟨a.1, a.2.1⟩)) _ _ hLpH.out.tv⟩, hLpH.out.bel⟩
         | succ m =>
           obtain ⟨t, ht⟩ : ∃ t, L[m]? = some t := ⟨L[m]'(by omega), by simp⟩
           have hta : (L ++ [E])[m]? = some t := by first | exact ht | (rw [List.getElem?_append_left (by omega)]; exact ht)
           obtain ⟨pa, pk, pneg, pod, pld, pcd, pnm, pn, pol, pll, pcl, pob, plb, pcb, hpa, hTp, y0, y1, y2, y3, y4, y5, y6⟩ := hTRH.out.get3 hta
           first | subst hpa | obtain rfl := Option.some.inj hpa
           have hpz : Hid (pa.block < w.heap.size) := hid (hzz.out _ (by
             obtain ⟨_, hq, _⟩ := TR.at _ _ m t hTRH.out hta
             exact hq))
           have hq : ∀ {x : Addr} {v : Value}, w.cell? x = some v → wr.cell? x = some v := fun hc => (hLp.bel.cell (World.block_lt_of_cell? _ _ hc)).trans hc
           replace y0 := hq y0
           replace y1 := hq y1
           replace y2 := hq y2
           replace y3 := hq y3
           replace y4 := hq y4
           replace y5 := hq y5
           replace y6 := hq y6
           clear hq
           have hgeq : (0 : Int) ≤ ((m + 1 : Nat) : Int) - 1 := by omega
           have hHt : Hid (L.drop m = t :: L.drop (m + 1)) := hid (drop_at ht)
           have hstep := hid (hLp.step rfl hgtw hzz.out hTp)
           have hglt : gt < wr.heap.size := (zge.1 hLp.box).1
           obtain ⟨W, hW⟩ : ∃ W, W = wr.alloc (.cells #[.int .i64 pk, .bool pneg, .slice pod pld pcd, .string pnm, .int .i64 pn, .slice pol pll pcl, .slice pob plb pcb, .int .i64 k, .bool neg, .slice od ld cd, .string nm, .int .i64 n, .slice ol1 ll cl1, .slice ob lb cb] 27) := ⟨_, rfl⟩
           have hbx2 : W.heap[gt]? = some (.cells #[.int .i64 k, .bool neg, .slice od ld cd, .string nm, .int .i64 n, .slice ol1 ll cl1, .slice ob lb cb] 27 (0, 0)) := by rw [hW]; exact (((Below.refl _ wr).alloc (Nat.le_refl _) _).block gt hglt).trans hLp.box
           obtain ⟨z0, z1, z2, z3, z4, z5, z6⟩ := cell7 hbx2
           have hfr2 : ∀ j, W.frozen? ⟨gt, j, none⟩ = false := (res7 hbx2).fr
           rw [hW] at z0 z1 z2 z3 z4 z5 z6 hfr2
           have hmL : m < L.length := by omega
           clear hLp hW hbx2 ht hta hTp
           go_wp2_with fail
           go_region
           go_wp2
           go_roundg m
           case measure => omega
           case rel =>
             refine ⟨6, false, none, 0, 0, noS, 0, some ⟨wr.heap.size, 0, none⟩, 2, 2, none, 0, 0, by first | rfl | go_num, by omega, ?_⟩
             rw [hHt.out]
             have hh := hstep.out
             exact hh
theorem whole_w (Z : Nat → Prop) (b : Nat) (o : Op) (ol : Option Addr) (cl : Nat) (w : World) (hb : w.heap[b]? = some (.cells #[.int .i32 (o.c.toNat : Int), .slice ol o.its.length cl, .bool o.bar] 97 (0, 0))) (hcl : o.its.length ≤ cl) (hT : TR Z w o.its ol) (hn : o.its.length ≤ 900000) (hok : okOp o) (hz : ∀ q, Z q → q < w.heap.size) :
   Calls Tryz.prog 59 #[.pointer (some ⟨b, 0, none⟩)] w fun e w' => ∃ v, e = .returned v ∧ LfV (NewZ Z w.heap.size w') w' (wholeL o) v ∧ Below w.heap.size w w' := by
 obtain ⟨c, its, bar⟩ := o
 obtain ⟨h1, h2⟩ := hok
 unfold wholeL
 simp only at h1 h2 hb hcl hT hn ⊢
 by_cases hc : c = 125
 · subst hc
   rw [if_pos rfl]
   exact whole_t Z b its bar ol cl w hb hcl hT
 · rw [if_neg hc]
   have hc3 : c = 93 := h1.elim id (fun e => absurd e hc)
   subst hc3
   cases bar with
   | false => exact whole_l Z b its ol cl w hb hn hT hz
   | true =>
     obtain ⟨hne, _⟩ := h2 rfl
     obtain ⟨L, E, rfl⟩ : ∃ L E, its = L ++ [E] := ⟨its.dropLast, its.getLast hne, (List.dropLast_concat_getLast hne).symm⟩
     rw [if_pos rfl, List.getLast?_concat, List.dropLast_concat]
     simp only [List.length_append, List.length_cons, List.length_nil, Nat.zero_add] at hb hcl hn
     obtain ⟨pa, rfl⟩ : ∃ a, ol = some a := by
       cases L with
       | nil => unfold TR at hT; obtain ⟨a, _, ha, _⟩ := hT; exact ⟨a, ha⟩
       | cons q qs => rw [List.cons_append] at hT; unfold TR at hT; obtain ⟨a, _, ha, _⟩ := hT; exact ⟨a, ha⟩
     exact whole_b Z b L E pa cl w hb (by omega) hcl hT hz
theorem rd_top {B g : Nat} {Z : Nat → Prop} {r : List UInt8} {o : Op} {st : List Op} {us : List Un} {ov : Value} {w : World} (h : RdS B g Z r (o :: st) us ov w) :
   ∃ u us' q c, us = u :: us' ∧ RowM B Z w o u ∧ Apart u us' ∧ StkM B Z w st us' ∧ ov = .slice (some ⟨q, 0, none⟩) (st.length + 1) c ∧ w.cell? ⟨q, st.length, none⟩ = some (ptrU u) ∧ st.length + 1 ≤ c ∧ w.ownsRow B 61 1 (.slice (some ⟨q, 0, none⟩) st.length c) st.length (us'.reverse.map ptrU) := by
 obtain ⟨u, us', rfl, h1, h2, h3⟩ := h.stk
 have hl := h3.len
 have ho := h.own
 simp only [List.length_cons, List.reverse_cons, List.map_append, List.map_cons, List.map_nil] at ho
 rcases ho.2 with ⟨_, h0⟩ | ⟨q, c, cur, e, hq, hc, hn, hm, _⟩
 · simp at h0
 · subst e
   have hcell := ho.cells (g := q) rfl st.length (ptrU u) (by simp [hl])
   rw [addr_add, Nat.zero_add] at hcell
   exact ⟨u, us', q, c, rfl, h1, h2, h3, rfl, hcell, hn, own_cut ho (by simp [hl])⟩
theorem own_last {w : World} {B g n c : Nat} {e : TypeId} {xs : List Value} {z0 z1 z2 z3 z4 z5 z6 : Value} (h : w.ownsRow B e 7 (.slice (some ⟨g, 0, none⟩) (n + 1) c) (n + 1) (xs ++ [z0, z1, z2, z3, z4, z5, z6])) (hx : xs.length = n * 7) (a0 a1 a2 a3 a4 a5 a6 : Value) (h1 : ∀ u ∈ [a0, a1, a2, a3, a4, a5, a6], u.oneCell' = true) :
   (((((((w.setCell ⟨g, n * 7, none⟩ a0).setCell ⟨g, n * 7 + 1, none⟩ a1).setCell ⟨g, n * 7 + 2, none⟩ a2).setCell ⟨g, n * 7 + 3, none⟩ a3).setCell ⟨g, n * 7 + 4, none⟩ a4).setCell ⟨g, n * 7 + 5, none⟩ a5).setCell ⟨g, n * 7 + 6, none⟩ a6).ownsRow B e 7 (.slice (some ⟨g, 0, none⟩) (n + 1) c) (n + 1) (xs ++ [a0, a1, a2, a3, a4, a5, a6]) := by
 have k := ((((((((((((h.stored (n * 7) a0).1).stored (n * 7 + 1) a1).1).stored (n * 7 + 2) a2).1).stored (n * 7 + 3) a3).1).stored (n * 7 + 4) a4).1).stored (n * 7 + 5) a5).1.stored (n * 7 + 6) a6).1
 rw [← hx] at k ⊢
 simpa [List.set_append] using k
theorem only_last (w : World) (g p : Nat) (a0 a1 a2 a3 a4 a5 a6 : Value) : Only g w (((((((w.setCell ⟨g, p, none⟩ a0).setCell ⟨g, p + 1, none⟩ a1).setCell ⟨g, p + 2, none⟩ a2).setCell ⟨g, p + 3, none⟩ a3).setCell ⟨g, p + 4, none⟩ a4).setCell ⟨g, p + 5, none⟩ a5).setCell ⟨g, p + 6, none⟩ a6) :=
 ((((((only_set w g p a0).setCell (p + 1) a1).setCell (p + 2) a2).setCell (p + 3) a3).setCell (p + 4) a4).setCell (p + 5) a5).setCell (p + 6) a6
structure Fin (B g2 b cap2 N : Nat) (xs : List Value) (c bar : Value) (wA wC : World) : Prop where
 os : wC.os = wA.os
 tape : wC.tape = wA.tape
 output : wC.output = wA.output
 size : wC.heap.size = wA.heap.size
 other : ∀ q, q ≠ g2 → q ≠ b → wC.heap[q]? = wA.heap[q]?
 own : wC.ownsRow B 27 7 (.slice (some ⟨g2, 0, none⟩) (N + 1) cap2) (N + 1) xs
 row : wC.heap[b]? = some (.cells #[c, .slice (some ⟨g2, 0, none⟩) (N + 1) cap2, bar] 97 (0, 0))
theorem finA {B g2 b cap2 N : Nat} {uxs : List Value} {c bar v0 z0 z1 z2 z3 z4 z5 z6 : Value} {wA : World} (h : wA.ownsRow B 27 7 (.slice (some ⟨g2, 0, none⟩) (N + 1) cap2) (N + 1) (uxs ++ [z0, z1, z2, z3, z4, z5, z6])) (hx : uxs.length = N * 7) (hb : wA.heap[b]? = some (.cells #[c, v0, bar] 97 (0, 0))) (hne : b ≠ g2) (a0 a1 a2 a3 a4 a5 a6 : Value) (h1 : ∀ u ∈ [a0, a1, a2, a3, a4, a5, a6], u.oneCell' = true) :
   Fin B g2 b cap2 N (uxs ++ [a0, a1, a2, a3, a4, a5, a6]) c bar wA ((((((((wA.setCell ⟨g2, N * 7, none⟩ a0).setCell ⟨g2, N * 7 + 1, none⟩ a1).setCell ⟨g2, N * 7 + 2, none⟩ a2).setCell ⟨g2, N * 7 + 3, none⟩ a3).setCell ⟨g2, N * 7 + 4, none⟩ a4).setCell ⟨g2, N * 7 + 5, none⟩ a5).setCell ⟨g2, N * 7 + 6, none⟩ a6).setCell ⟨b, 1, none⟩ (.slice (some ⟨g2, 0, none⟩) (N + 1) cap2)) := by
 have hon := only_last wA g2 (N * 7) a0 a1 a2 a3 a4 a5 a6
 have hown := own_last h hx a0 a1 a2 a3 a4 a5 a6 h1
 generalize (((((((wA.setCell ⟨g2, N * 7, none⟩ a0).setCell ⟨g2, N * 7 + 1, none⟩ a1).setCell ⟨g2, N * 7 + 2, none⟩ a2).setCell ⟨g2, N * 7 + 3, none⟩ a3).setCell ⟨g2, N * 7 + 4, none⟩ a4).setCell ⟨g2, N * 7 + 5, none⟩ a5).setCell ⟨g2, N * 7 + 6, none⟩ a6) = wB at *
 have ho2 := only_set wB b 1 (.slice (some ⟨g2, 0, none⟩) (N + 1) cap2)
 have hb2 := (hon.2.2 b hne).trans hb
 exact ⟨ho2.1.os.trans hon.1.os, ho2.1.tape.trans hon.1.tape, ho2.1.output.trans hon.1.output, ho2.2.1.trans hon.2.1, fun q h1 h2 => (ho2.2.2 q h2).trans (hon.2.2 q h1), own_blkS hown (fun q hq => ho2.2.2 q (fun e => by simp only [Value.ownBlock, Option.some.injEq] at hq; exact hne (e ▸ hq.symm))), heap_setc hb2 _⟩
theorem finB {B g2 b cap2 N : Nat} {uxs : List Value} {c bar v0 z0 z1 z2 z3 z4 z5 z6 : Value} {wA : World} (h : wA.ownsRow B 27 7 (.slice (some ⟨g2, 0, none⟩) (N + 1) cap2) (N + 1) (uxs ++ [z0, z1, z2, z3, z4, z5, z6])) (hx : uxs.length = N * 7) (hb : wA.heap[b]? = some (.cells #[c, v0, bar] 97 (0, 0))) (hne : b ≠ g2) (a0 a1 a2 a3 a4 a5 a6 : Value) (h1 : ∀ u ∈ [a0, a1, a2, a3, a4, a5, a6], u.oneCell' = true) :
   Fin B g2 b cap2 N (uxs ++ [a0, a1, a2, a3, a4, a5, a6]) c bar wA ((((((((wA.setCell ⟨b, 1, none⟩ (.slice (some ⟨g2, 0, none⟩) (N + 1) cap2)).setCell ⟨g2, N * 7, none⟩ a0).setCell ⟨g2, N * 7 + 1, none⟩ a1).setCell ⟨g2, N * 7 + 2, none⟩ a2).setCell ⟨g2, N * 7 + 3, none⟩ a3).setCell ⟨g2, N * 7 + 4, none⟩ a4).setCell ⟨g2, N * 7 + 5, none⟩ a5).setCell ⟨g2, N * 7 + 6, none⟩ a6) := by
 have ho2 := only_set wA b 1 (.slice (some ⟨g2, 0, none⟩) (N + 1) cap2)
 have hb2 : (wA.setCell ⟨b, 1, none⟩ (.slice (some ⟨g2, 0, none⟩) (N + 1) cap2)).heap[b]? = some (.cells #[c, .slice (some ⟨g2, 0, none⟩) (N + 1) cap2, bar] 97 (0, 0)) := heap_setc hb _
 have h2 := own_blkS h (w' := wA.setCell ⟨b, 1, none⟩ (.slice (some ⟨g2, 0, none⟩) (N + 1) cap2)) (fun q hq => ho2.2.2 q (fun e => by simp only [Value.ownBlock, Option.some.injEq] at hq; exact hne (e ▸ hq.symm)))
 generalize wA.setCell ⟨b, 1, none⟩ (.slice (some ⟨g2, 0, none⟩) (N + 1) cap2) = wB at *
 have hon := only_last wB g2 (N * 7) a0 a1 a2 a3 a4 a5 a6
 have hown := own_last h2 hx a0 a1 a2 a3 a4 a5 a6 h1
 generalize (((((((wB.setCell ⟨g2, N * 7, none⟩ a0).setCell ⟨g2, N * 7 + 1, none⟩ a1).setCell ⟨g2, N * 7 + 2, none⟩ a2).setCell ⟨g2, N * 7 + 3, none⟩ a3).setCell ⟨g2, N * 7 + 4, none⟩ a4).setCell ⟨g2, N * 7 + 5, none⟩ a5).setCell ⟨g2, N * 7 + 6, none⟩ a6) = wC at *
 exact ⟨hon.1.os.trans ho2.1.os, hon.1.tape.trans ho2.1.tape, hon.1.output.trans ho2.1.output, hon.2.1.trans ho2.2.1, fun q h1 h2 => (hon.2.2 q h1).trans (ho2.2.2 q h2), hown, (hon.2.2 b hne).trans hb2⟩
theorem put_mem {B g : Nat} {Z : Nat → Prop} {r : List UInt8} {o : Op} {st : List Op} {u : Un} {us' : List Un} {ov ov2 : Value} {w w3 wA wC : World} {T : Tm} {k : Int} {neg : Bool} {od : Option Addr} {ld cd : Nat} {nm : ByteArray} {n : Int} {ol : Option Addr} {ll cl : Nat} {ob : Option Addr} {lb cb g2 cap2 : Nat} {bar : Bool}
   (h : RdS B g Z r (o :: st) (u :: us') ov w) (hT : TV Z w T (tmV k neg (.slice od ld cd) nm n (.slice ol ll cl) (.slice ob lb cb)))
   (hR3 : Rdr g r ov2 w3) (hK3 : Kpt (fun b => b = g) w w3) (hov : ov2.ownBlock = ov.ownBlock) (hO3 : w3.ownsRow B 61 1 ov2 st.length (us'.reverse.map ptrU))
   (hg : w3.grownBy wA u.v.ownBlock) (hg2 : u.v.ownBlock = some g2 ∨ (w.heap.size ≤ g2 ∧ w3.heap.size ≤ g2)) (hF : Fin B g2 u.b cap2 o.its.length (u.xs ++ [.int .i64 k, .bool neg, .slice od ld cd, .string nm, .int .i64 n, .slice ol ll cl, .slice ob lb cb]) (.int .i32 (o.c.toNat : Int)) (.bool bar) wA wC) :
   RdS B g Z r st us' ov2 wC ∧ RowM B Z wC ⟨o.c, o.its ++ [T], bar⟩ ⟨u.b, .slice (some ⟨g2, 0, none⟩) (o.its.length + 1) cap2, u.xs ++ [.int .i64 k, .bool neg, .slice od ld cd, .string nm, .int .i64 n, .slice ol ll cl, .slice ob lb cb]⟩ ∧ Apart ⟨u.b, .slice (some ⟨g2, 0, none⟩) (o.its.length + 1) cap2, u.xs ++ [.int .i64 k, .bool neg, .slice od ld cd, .string nm, .int .i64 n, .slice ol ll cl, .slice ob lb cb]⟩ us' ∧ Kpt (FR B g) w wC := by
 obtain ⟨u0, us0, e0, hrow, hap, hst⟩ := h.stk
 injection e0 with e1 e2
 subst e1 e2
 have hul := hrow.lt
 have hs1 := hK3.size
 have hs2 := hg.size
 have hs3 := hF.size
 have hgl := h.rdr.lt
 have hub := hul u.b (.inl rfl)
 have key : ∀ q, q < w.heap.size → q ≠ g → ¬ u.owns q → wC.heap[q]? = w.heap[q]? := fun q hq hqg hqu => by
   have n1 : q ≠ u.b := fun e => hqu (.inl e)
   have n2 : u.v.ownBlock ≠ some q := fun e => hqu (.inr e)
   have n3 : q ≠ g2 := fun e => by
     rcases hg2 with h2 | h2
     · exact n2 (e ▸ h2)
     · omega
   rw [hF.other q n3 n1, hg.block q (by omega) (fun e => n2 e.symm), hK3.block q hq hqg]
 have g_own : ¬ u.owns g := fun hk => by
   obtain ⟨c, e, hc, he⟩ := hrow.ty g hk
   exact h.ne_g hc (by rcases he with rfl | rfl <;> decide) rfl
 have hz : ∀ q, Z q → wC.heap[q]? = w.heap[q]? := fun q hq => key q (h.zl q hq) (fun e => h.zg (e ▸ hq)) (fun hk => hrow.nz q hk hq)
 have hother : ∀ u' ∈ us', ∀ q, u'.owns q → wC.heap[q]? = w.heap[q]? := fun u' hu' q hq => by
   obtain ⟨o', ho'⟩ := hst.mem u' hu'
   obtain ⟨c, e, hc, he⟩ := ho'.ty q hq
   exact key q (ho'.lt q hq).2 (h.ne_g hc (by rcases he with rfl | rfl <;> decide)) (fun hk => hap q hk u' hu' hq)
 have hgC : wC.heap[g]? = w3.heap[g]? := by
   have n1 : g ≠ u.b := fun e => g_own (.inl e)
   have n2 : u.v.ownBlock ≠ some g := fun e => g_own (.inr e)
   have n3 : g ≠ g2 := fun e => by
     rcases hg2 with h2 | h2
     · exact n2 (e ▸ h2)
     · omega
   rw [hF.other g n3 n1, hg.block g (by omega) (fun e => n2 e.symm)]
 have hoC : ∀ q, ov2.ownBlock = some q → wC.heap[q]? = w3.heap[q]? := fun q hq => by
   rw [hov] at hq
   obtain ⟨hqB, c, hc⟩ := h.oty q hq
   have hql := (World.ownsRow.lt h.own q hq).2
   have hqg : q ≠ g := h.ne_g hc (by decide)
   have hqu : ¬ u.owns q := fun hk => by
     obtain ⟨c', e, hc', he⟩ := hrow.ty q hk
     rw [hc] at hc'
     simp only [Option.some.injEq, Obj.cells.injEq] at hc'
     obtain ⟨_, rfl, _⟩ := hc'
     rcases he with he | he <;> revert he <;> decide
   exact (key q hql hqg hqu).trans (hK3.block q hql hqg).symm
 refine ⟨⟨⟨hgC.trans hR3.at_⟩, own_blkS hO3 hoC, hst.on hz hother (fun _ hk => hk) (fun u' hu' q hq => ?_), by have := h.gl; omega, fun q hq => by have := h.zl q hq; omega, h.zb, h.zg, fun q hq => h.zo q (hov ▸ hq)⟩, ⟨hF.row, ?_, ?_, hrow.lo, ?_⟩, ?_, ?_⟩
 · obtain ⟨o', ho'⟩ := hst.mem u' hu'
   exact ho'.nz q hq
 · rw [show (o.its ++ [T]).length = o.its.length + 1 by simp]
   exact hF.own
 · exact RC.snoc (TV.zs hz _ _ hT) (hrow.rc.zs hz)
 · rintro q (rfl | hq) hzq
   · exact hrow.nz _ (.inl rfl) hzq
   · simp only [Value.ownBlock, Option.some.injEq] at hq
     subst hq
     rcases hg2 with h2 | h2
     · exact hrow.nz _ (.inr h2) hzq
     · have := h.zl _ hzq; omega
 · rintro q (rfl | hq) u' hu' hk
   · exact hap _ (.inl rfl) u' hu' hk
   · simp only [Value.ownBlock, Option.some.injEq] at hq
     subst hq
     rcases hg2 with h2 | h2
     · exact hap _ (.inr h2) u' hu' hk
     · obtain ⟨o', ho'⟩ := hst.mem u' hu'
       have := (ho'.lt _ hk).2
       omega
 · exact ⟨by rw [hF.os, hg.os, hK3.os], by rw [hF.tape, hg.tape, hK3.tape], by rw [hF.output, hg.output, hK3.output], by omega, fun q hq hn => key q hq (fun e => hn (.inl e)) (fun hk => hn (.inr (hul q hk).1))⟩
theorem RowM.kpt {B g : Nat} {Z : Nat → Prop} {r : List UInt8} {st : List Op} {us : List Un} {ov : Value} {w w' : World} {o : Op} {u : Un} (h : RowM B Z w o u) (hS : RdS B g Z r st us ov w) (hK : Kpt (fun b => b = g) w w') : RowM B Z w' o u :=
 h.on (fun k hk => hK.block k (hS.zl k hk) (fun e => hS.zg (e ▸ hk))) (fun k hk => by
   obtain ⟨c, e, hc, he⟩ := h.ty k hk
   exact hK.block k (h.lt k hk).2 (hS.ne_g hc (by rcases he with rfl | rfl <;> decide))) (fun _ hk => hk) h.nz
theorem RdS.more {B g : Nat} {Z P : Nat → Prop} {r : List UInt8} {st : List Op} {us : List Un} {ov : Value} {w : World} (h : RdS B g Z r st us ov w) (hl : ∀ k, P k → B ≤ k ∧ k < w.heap.size) (hg : ¬ P g) (ho : ∀ k, ov.ownBlock = some k → ¬ P k) (hu : ∀ u ∈ us, ∀ k, u.owns k → ¬ P k) : RdS B g (fun k => Z k ∨ P k) r st us ov w :=
 ⟨h.rdr, h.own, h.stk.on (fun _ _ => rfl) (fun _ _ _ _ => rfl) (fun _ hk => .inl hk) (fun u hu' k hk => by
   obtain ⟨o, ho'⟩ := h.stk.mem u hu'
   exact fun hz => hz.elim (ho'.nz k hk) (hu u hu' k hk)), h.gl, fun k hk => hk.elim (h.zl k) (fun a => (hl k a).2), fun k hk => hk.elim (h.zb k) (fun a => (hl k a).1), fun hk => hk.elim h.zg hg, fun k hk hz => hz.elim (h.zo k hk) (ho k hk)⟩
def RowZ (Z : Nat → Prop) (v : Value) : Nat → Prop := fun k => Z k ∨ v.ownBlock = some k
theorem RowM.tr {B : Nat} {Z : Nat → Prop} {w : World} {o : Op} {b c : Nat} {ol : Option Addr} {xs : List Value} (h : RowM B Z w o ⟨b, .slice ol o.its.length c, xs⟩) : TR (RowZ Z (.slice ol o.its.length c)) w o.its ol := by
 refine own_trz (B := B) h.own (RC.mono (fun k _ hk => .inl hk) h.rc) (fun g hg _ _ => .inr ?_)
 rw [hg]; rfl
theorem put_end {B g : Nat} {Z : Nat → Prop} {r : List UInt8} {st : List Op} {us : List Un} {ov : Value} {w w' : World} {o : Op} {u : Un} {t : Option Tm} {v : Value} (hS : RdS B g Z r st us ov w) (hR : RowM B Z w o u) (hA : Apart u us) (hL : LfV (NewZ (RowZ Z u.v) w.heap.size w') w' t v) (hb : Below w.heap.size w w') : StH B g r st (hdO t) v w' := by
 have h1 : RdS B g (RowZ Z u.v) r st us ov w := hS.more (P := fun k => u.v.ownBlock = some k) (fun k hk => hR.lt k (.inr hk)) (fun hk => by
     obtain ⟨c, e, hc, he⟩ := hR.ty g (.inr hk)
     exact hS.ne_g hc (by rcases he with rfl | rfl <;> decide) rfl) (fun k hk hk2 => by
     obtain ⟨_, c, hc⟩ := hS.oty k hk
     obtain ⟨c', e, hc', he⟩ := hR.ty k (.inr hk2)
     rw [hc] at hc'
     simp only [Option.some.injEq, Obj.cells.injEq] at hc'
     obtain ⟨_, rfl, _⟩ := hc'
     rcases he with he | he <;> revert he <;> decide) (fun u' hu' k hk hk2 => hA k (.inr hk2) u' hu' hk)
 have h2 : RdS B g (NewZ (RowZ Z u.v) w.heap.size w') r st us ov w' := h1.on (h1.rdr.below hb) (Kpt.of_below hb) (fun k hk => .inl hk) (fun k hk => hk.elim (fun a => ⟨Nat.lt_of_lt_of_le (h1.zl k a) hb.size, .inl a⟩) (fun a => ⟨a.2, .inr a.1⟩))
 refine ⟨_, us, ov, h2, ?_⟩
 cases t with
 | none => exact hL
 | some T => exact hL
theorem put_bar {B g : Nat} {Z : Nat → Prop} {r : List UInt8} {st : List Op} {us : List Un} {ov : Value} {w : World} {c : UInt8} {its : List Tm} {bar : Bool} {u : Un} (hS : RdS B g Z r st us ov w) (hR : RowM B Z w ⟨c, its, bar⟩ u) (hA : Apart u us) : RdS B g Z r st us ov (w.setCell ⟨u.b, 2, none⟩ (.bool true)) ∧ RowM B Z (w.setCell ⟨u.b, 2, none⟩ (.bool true)) ⟨c, its, true⟩ u := by
 have hon := only_set w u.b 2 (.bool true)
 have hrow : (w.setCell ⟨u.b, 2, none⟩ (.bool true)).heap[u.b]? = some (.cells #[.int .i32 (c.toNat : Int), u.v, .bool true] 97 (0, 0)) := heap_setc hR.at_ _
 generalize w.setCell ⟨u.b, 2, none⟩ (.bool true) = W at *
 have hz : ∀ k, Z k → W.heap[k]? = w.heap[k]? := fun k hk => hon.2.2 k (fun e => hR.nz _ (.inl rfl) (e ▸ hk))
 have hgb : g ≠ u.b := fun e => by
   have := hS.ne_g hR.at_ (by decide)
   exact this e.symm
 have hvb : ∀ k, u.v.ownBlock = some k → k ≠ u.b := fun k hk e => by
   subst e
   obtain ⟨_, ⟨h2, _⟩ | ⟨g', cap, cur, h2, _, hcc, _⟩⟩ := hR.own
   · rw [h2] at hk; simp [Value.ownBlock] at hk
   · rw [h2] at hk
     simp only [Value.ownBlock, Option.some.injEq] at hk
     subst hk
     rw [hR.at_] at hcc
     simp only [Option.some.injEq, Obj.cells.injEq] at hcc
     exact absurd hcc.2.1 (by decide)
 refine ⟨⟨⟨(hon.2.2 g hgb).trans hS.rdr.at_⟩, own_blkS hS.own (fun k hk => hon.2.2 k (fun e => ?_)), hS.stk.on hz (fun u' hu' k hk => hon.2.2 k (fun e => hA _ (.inl rfl) u' hu' (e ▸ hk))) (fun _ hk => hk) (fun u' hu' k hk => ?_), by rw [hon.2.1]; exact hS.gl, fun k hk => by rw [hon.2.1]; exact hS.zl k hk, hS.zb, hS.zg, hS.zo⟩, ⟨hrow, own_blkS hR.own (fun k hk => hon.2.2 k (hvb k hk)), hR.rc.zs hz, hR.lo, hR.nz⟩⟩
 · subst e
   obtain ⟨_, c', hc⟩ := hS.oty _ hk
   rw [hR.at_] at hc
   simp only [Option.some.injEq, Obj.cells.injEq] at hc
   exact absurd hc.2.1 (by decide)
 · obtain ⟨o', ho'⟩ := hS.stk.mem u' hu'
   exact ho'.nz k hk
theorem wt_len : ∀ st : List Op, st.length ≤ wtS st
 | [] => Nat.le_refl _
 | o :: st => by have := wt_len st; simp only [wtS, wtO, List.length_cons]; omega
set_option maxHeartbeats 8000000 in
theorem put_w (B g : Nat) (r : List UInt8) (o : Op) (st : List Op) (T : Tm) (x : Value) (w W0 : World) (hr : r.length ≤ 900000) (hw : wtS (o :: st) ≤ 800000) (hok : okOp o) (hS : StH B g r (o :: st) (.tm T) (.iface 27 x) w) (hTb : Tabs W0) (hWB : W0.heap.size ≤ B) (hWg : W0.heap.size ≤ g) (hb : Below W0.heap.size W0 w) :
   Calls Tryz.prog 24 #[.pointer (some ⟨g, 0, none⟩), x] w fun e w' => ∃ v, e = .returned v ∧ StH B g (putL o T r).2 st (putL o T r).1 v w' ∧ Kpt (FR B g) w w' := by
 obtain ⟨Z, us, ov, hR, x', ex, hTV⟩ := hS
 obtain rfl : x = x' := by injection ex
 obtain ⟨k, neg, od, ld, cd, nm, n, ol, ll, cl, ob, lb, cb, rfl⟩ := hTV.form
 obtain ⟨u, us', q, c, rfl, hrow, hap, hst, rfl, hcell, hqc, hown⟩ := rd_top hR
 obtain ⟨iT, hT1, hT2, hT3, hT4⟩ := info_parts infoT
 obtain ⟨ub, uv, uxs⟩ := u
 obtain ⟨vo, vc, e, hvc⟩ := own_sl hrow.own
 simp only at e
 subst e
 have hm : st.length ≤ 800000 := by have := wt_len st; simp only [wtS] at hw; omega
 have hN : o.its.length ≤ 800000 := by simp only [wtS, wtO] at hw; omega
 have hxl0 : uxs.length = o.its.length * 7 := hrow.own.1
 obtain ⟨m, hmm⟩ : ∃ m, st.length = m := ⟨_, rfl⟩
 obtain ⟨N, hNN⟩ : ∃ N, o.its.length = N := ⟨_, rfl⟩
 have hgl := hR.rdr.lt
 have hub := (hrow.lt ub (.inl rfl)).2
 have hubg : ub ≠ g := hR.ne_g hrow.at_ (by decide)
 obtain ⟨z0, z1, f0, f1⟩ := hR.rdr.cells
 have hat := hrow.at_
 have hO0 : Hid (w.ownsRow B 27 7 (.slice vo o.its.length vc) o.its.length uxs) := hid hrow.own
 have hbox := heap_alloc_new w (.cells #[.int .i64 k, .bool neg, .slice od ld cd, .string nm, .int .i64 n, .slice ol ll cl, .slice ob lb cb] 27)
 have bW := (Below.refl w.heap.size w).alloc (Nat.le_refl _) (.cells #[.int .i64 k, .bool neg, .slice od ld cd, .string nm, .int .i64 n, .slice ol ll cl, .slice ob lb cb] 27)
 have hWs : (w.alloc (.cells #[.int .i64 k, .bool neg, .slice od ld cd, .string nm, .int .i64 n, .slice ol ll cl, .slice ob lb cb] 27)).heap.size = w.heap.size + 1 := by simp
 obtain ⟨W1, hW1⟩ : ∃ W1, W1 = (w.alloc (.cells #[.int .i64 k, .bool neg, .slice od ld cd, .string nm, .int .i64 n, .slice ol ll cl, .slice ob lb cb] 27)) := ⟨_, rfl⟩
 rw [← hW1] at hbox bW hWs
 have hR1 := hR.rdr.below bW
 rw [hmm] at hcell hqc hown z1 hR1
 have hcell1 : W1.cell? ⟨q, m, none⟩ = some (.pointer (some ⟨ub, 0, none⟩)) := (bW.cell (World.block_lt_of_cell? _ _ hcell)).trans hcell
 obtain ⟨a0, a1, af0, af1⟩ := hR1.cells
 have hat1 := (bW.block ub hub).trans hat
 have hownr1 := own_below hrow.own bW
 have hown1 := own_below hown bW
 obtain ⟨V, hV⟩ : ∃ V, V = W1.setCell ⟨g, 1, none⟩ (.slice (some ⟨q, 0, none⟩) m c) := ⟨_, rfl⟩
 have hRV : Rdr g r (.slice (some ⟨q, 0, none⟩) m c) V := by
   refine ⟨?_⟩
   have := hR1.at_
   rw [hV]
   simp [World.setCell, Array.getElem?_modify, this]
 have onV : Only g W1 V := by rw [hV]; exact only_set _ _ _ _
 have hVs : V.heap.size = w.heap.size + 1 := onV.2.1.trans hWs
 have hKV : Hid (Kpt (fun b => b = g) w V) := hid ((Kpt.of_below bW).trans (by rw [hV]; exact Kpt.of_set (F := fun b => b = g) W1 (p := ⟨g, 1, none⟩) rfl _))
 have hboxV := (onV.2.2 w.heap.size (by omega)).trans hbox
 have hatV := (onV.2.2 ub hubg).trans hat1
 obtain ⟨b0, b1, b2⟩ := cell3 hatV
 have bfr : ∀ j, V.frozen? ⟨ub, j, none⟩ = false := fun j => by simp [World.frozen?, hatV]
 obtain ⟨x0, x1, x2, x3, x4, x5, x6⟩ := cell7 hboxV
 have hOwnV : Hid (V.ownsRow B 27 7 (.slice vo N vc) N uxs) := hid (by
   rw [← hNN]
   exact own_blkS hownr1 (fun j hj => onV.2.2 j (fun e => by
     subst e
     obtain ⟨_, ⟨h2, _⟩ | ⟨g', cap, cur, h2, _, hcc, _⟩⟩ := hO0.out
     · rw [h2] at hj; simp [Value.ownBlock] at hj
     · rw [h2] at hj
       simp only [Value.ownBlock, Option.some.injEq] at hj
       subst hj
       exact hR.ne_g hcc (by decide) rfl)))
 have hOV : Hid (V.ownsRow B 61 1 (.slice (some ⟨q, 0, none⟩) m c) m (us'.reverse.map ptrU)) := hid (by
   exact own_blkS hown1 (fun j hj => onV.2.2 j (fun e => by
     subst e
     obtain ⟨_, c', hc'⟩ := hR.oty j hj
     exact hR.ne_g hc' (by decide) rfl)))
 have hBV : Hid (B ≤ V.heap.size) := hid (by have := hR.gl; omega)
 have hcr : Hid (∀ (j : Nat) (u : Value), ([.int .i64 0, .bool false, .slice none 0 0, .string ⟨#[]⟩, .int .i64 0, .slice none 0 0, .slice none 0 0] : List Value)[j]? = some u → (V.alloc (.cells #[.int .i64 0, .bool false, .slice none 0 0, .string ⟨#[]⟩, .int .i64 0, .slice none 0 0, .slice none 0 0] 27)).drew.cell? ((⟨V.heap.size, 0, none⟩ : Addr).add j) = some u) := hid (World.news_of_block (heap_alloc_new V _))
 have honez : ∀ u ∈ ([.int .i64 0, .bool false, .slice none 0 0, .string ⟨#[]⟩, .int .i64 0, .slice none 0 0, .slice none 0 0] : List Value), u.oneCell' = true := by decide
 have hxl : Hid (uxs.length = N * 7) := hid (by rw [← hNN]; exact hxl0)
 have hvb : ∀ j, Value.ownBlock (.slice vo o.its.length vc) = some j → j < w.heap.size ∧ j ≠ ub := fun j hj => by
   refine ⟨(World.ownsRow.lt hrow.own j hj).2, fun e => ?_⟩
   subst e
   obtain ⟨_, ⟨h2, _⟩ | ⟨g', cap, cur, h2, _, hcc, _⟩⟩ := hO0.out
   · rw [h2] at hj; simp [Value.ownBlock] at hj
   · rw [h2] at hj
     simp only [Value.ownBlock, Option.some.injEq] at hj
     subst hj
     rw [hrow.at_] at hcc
     simp only [Option.some.injEq, Obj.cells.injEq] at hcc
     exact absurd hcc.2.1 (by decide)
 rw [hNN] at hvb
 have hvbH := hid hvb
 have hfar : Hid (∀ (g2 : Nat) (w2 : World), (V.alloc (.cells #[.int .i64 0, .bool false, .slice none 0 0, .string ⟨#[]⟩, .int .i64 0, .slice none 0 0, .slice none 0 0] 27)).drew.grownBy w2 (Value.ownBlock (.slice vo N vc)) → (Value.ownBlock (.slice vo N vc) = some g2 ∨ g2 = V.heap.size + 1) →
     w2.cell? ⟨ub, 0, none⟩ = some (.int .i32 (o.c.toNat : Int)) ∧ w2.cell? ⟨ub, 1, none⟩ = some (.slice vo N vc) ∧ w2.cell? ⟨ub, 2, none⟩ = some (.bool o.bar) ∧ (∀ j, w2.frozen? ⟨ub, j, none⟩ = false) ∧ w2.cell? ⟨w.heap.size, 0, none⟩ = some (.int .i64 k) ∧ w2.cell? ⟨w.heap.size, 1, none⟩ = some (.bool neg) ∧ w2.cell? ⟨w.heap.size, 2, none⟩ = some (.slice od ld cd) ∧ w2.cell? ⟨w.heap.size, 3, none⟩ = some (.string nm) ∧ w2.cell? ⟨w.heap.size, 4, none⟩ = some (.int .i64 n) ∧ w2.cell? ⟨w.heap.size, 5, none⟩ = some (.slice ol ll cl) ∧ w2.cell? ⟨w.heap.size, 6, none⟩ = some (.slice ob lb cb) ∧ ub ≠ g2 ∧ g2 ≠ ub ∧ w.heap.size ≠ g2 ∧ Hid (w2.heap[ub]? = some (.cells #[.int .i32 (o.c.toNat : Int), .slice vo N vc, .bool o.bar] 97 (0, 0)))) := hid (fun g2 w2 hgr hg2 => by
   have hzz : (V.alloc (.cells #[.int .i64 0, .bool false, .slice none 0 0, .string ⟨#[]⟩, .int .i64 0, .slice none 0 0, .slice none 0 0] 27)).drew.heap.size = V.heap.size + 1 := by simp
   have hn1 : ub ≠ g2 := fun e => by
     rcases hg2 with h2 | h2
     · exact (hvb g2 h2).2 e.symm
     · omega
   have hn2 : w.heap.size ≠ g2 := fun e => by
     rcases hg2 with h2 | h2
     · have := (hvb g2 h2).1; omega
     · omega
   have ha : ∀ j, j < V.heap.size → (V.alloc (.cells #[.int .i64 0, .bool false, .slice none 0 0, .string ⟨#[]⟩, .int .i64 0, .slice none 0 0, .slice none 0 0] 27)).drew.heap[j]? = V.heap[j]? := fun j hj => (((Below.refl V.heap.size V).alloc (Nat.le_refl _) _).block j hj)
   have q1 : w2.heap[ub]? = V.heap[ub]? := (hgr.block ub (by omega) (fun e => (hvb ub e.symm).2 rfl)).trans (ha ub (by omega))
   have q2 : w2.heap[w.heap.size]? = V.heap[w.heap.size]? := (hgr.block _ (by omega) (fun e => by have := (hvb _ e.symm).1; omega)).trans (ha _ (by omega))
   rw [hatV] at q1
   rw [hboxV] at q2
   obtain ⟨p0, p1, p2⟩ := cell3 q1
   obtain ⟨t0, t1, t2, t3, t4, t5, t6⟩ := cell7 q2
   refine ⟨p0, ?_, p2, fun j => by simp [World.frozen?, q1], t0, t1, t2, t3, t4, t5, t6, hn1, hn1.symm, hn2, hid ?_⟩
   · rw [← hNN]; exact p1
   · rw [← hNN]; exact q1)
 have hfin : Hid (∀ (g2 cap2 : Nat) (w2 WC : World), (V.alloc (.cells #[.int .i64 0, .bool false, .slice none 0 0, .string ⟨#[]⟩, .int .i64 0, .slice none 0 0, .slice none 0 0] 27)).drew.grownBy w2 (Value.ownBlock (.slice vo N vc)) → (Value.ownBlock (.slice vo N vc) = some g2 ∨ g2 = V.heap.size + 1) →
     Fin B g2 ub cap2 N (uxs ++ [.int .i64 k, .bool neg, .slice od ld cd, .string nm, .int .i64 n, .slice ol ll cl, .slice ob lb cb]) (.int .i32 (o.c.toNat : Int)) (.bool o.bar) w2 WC → ∃ g2 cap2, RdS B g Z r st us' (.slice (some ⟨q, 0, none⟩) m c) WC ∧ RowM B Z WC ⟨o.c, o.its ++ [T], o.bar⟩ ⟨ub, .slice (some ⟨g2, 0, none⟩) (N + 1) cap2, uxs ++ [.int .i64 k, .bool neg, .slice od ld cd, .string nm, .int .i64 n, .slice ol ll cl, .slice ob lb cb]⟩ ∧ Apart ⟨ub, .slice (some ⟨g2, 0, none⟩) (N + 1) cap2, uxs ++ [.int .i64 k, .bool neg, .slice od ld cd, .string nm, .int .i64 n, .slice ol ll cl, .slice ob lb cb]⟩ us' ∧ Kpt (FR B g) w WC) := hid (fun g2 cap2 w2 WC hgr hg2 hF => by
   have hbA : Below V.heap.size V (V.alloc (.cells #[.int .i64 0, .bool false, .slice none 0 0, .string ⟨#[]⟩, .int .i64 0, .slice none 0 0, .slice none 0 0] 27)).drew := ((Below.refl V.heap.size V).alloc (Nat.le_refl _) _).drew
   have hzz : (V.alloc (.cells #[.int .i64 0, .bool false, .slice none 0 0, .string ⟨#[]⟩, .int .i64 0, .slice none 0 0, .slice none 0 0] 27)).drew.heap.size = V.heap.size + 1 := by simp
   subst hNN
   subst hmm
   exact ⟨g2, cap2, put_mem hR hTV (hRV.below hbA) (hKV.out.trans (Kpt.of_below hbA)) rfl (own_below hOV.out hbA) hgr (hg2.elim .inl (fun e => .inr ⟨by omega, by omega⟩)) hF⟩)
 have n1 : N < N + 1 := by omega
 have n2 : (N : Int) < (N : Int) + 1 := by omega
 have n3 : ¬ ((N : Int) < 0) := by omega
 have n4 : (0 : Int) ≤ (N : Int) := by omega
 have honc : ∀ u ∈ ([.int .i64 k, .bool neg, .slice od ld cd, .string nm, .int .i64 n, .slice ol ll cl, .slice ob lb cb] : List Value), u.oneCell' = true := by
   intro u hu
   simp only [List.mem_cons, List.not_mem_nil, or_false] at hu
   rcases hu with rfl | rfl | rfl | rfl | rfl | rfl | rfl <;> rfl
 have hmz : (m : Int) ≤ 800000 := by omega
 have hmc : (m : Int) ≤ (c : Int) := by omega
 have hW1H := hid hW1
 have hVH := hid hV
 have hRVH := hid hRV
 rw [hNN] at b1
 have hok2 := hid hok
 clear hvb hxl0 hR hTV hrow hap hst hcell hown hw hok hat hat1 bW hR1 hownr1 hown1 hV onV hboxV hatV hRV z0 z1 f0 f1 hbox hW1
 obtain ⟨R, hRe⟩ : ∃ R, putL o T r = R := ⟨_, rfl⟩
 rw [hRe]
 have hRp := hid hRe
 clear hRe
 unfold putL at hRp
 go_enter Tryz.func24, Tryz.ntmps24
 go_upto_region 1 with fail
 rw [← hW1H.out]
 go_upto_region 4 with fail
 rw [← hVH.out]
 go_cut [] from 29 to 40 (fun wx => ∃ g2 cap2, RdS B g Z r st us' (.slice (some ⟨q, 0, none⟩) m c) wx ∧ RowM B Z wx ⟨o.c, o.its ++ [T], o.bar⟩ ⟨ub, .slice (some ⟨g2, 0, none⟩) (N + 1) cap2, uxs ++ [.int .i64 k, .bool neg, .slice od ld cd, .string nm, .int .i64 n, .slice ol ll cl, .slice ob lb cb]⟩ ∧ Apart ⟨ub, .slice (some ⟨g2, 0, none⟩) (N + 1) cap2, uxs ++ [.int .i64 k, .bool neg, .slice od ld cd, .string nm, .int .i64 n, .slice ol ll cl, .slice ob lb cb]⟩ us' ∧ Kpt (FR B g) w wx)
 case first =>
   go_region_law (
     refine step_append_lies _ rfl (.tmp 32) (.tmp 35) 24 rfl B 27 iT (.agg #[.int .i64 0, .bool false, .slice none 0 0, .string ⟨#[]⟩, .int .i64 0, .slice none 0 0, .slice none 0 0]) 7 112 Tryz.underlying24 hT1 hT2 hT3 hT4 rfl (by decide) (.slice vo N vc) N uxs (by simp [Act.eval, Act.put]) ((hOwnV.out.alloc _).drew) ⟨V.heap.size, 0, none⟩ 1 1 [.int .i64 0, .bool false, .slice none 0 0, .string ⟨#[]⟩, .int .i64 0, .slice none 0 0, .slice none 0 0] (by simp [Act.eval, Act.put]) rfl hcr.out honez (by decide) (by unfold maxLen; omega) (by omega) (by simp; have := hBV.out; omega) (V.heap.size + 1) (by simp) (fun g2 cap2 w2 hown hgrow hg2 hlt2 => ?_)
     have hxl2 := hxl.out
     have e0 : w2.cell? ⟨g2, N * 7, none⟩ = some (.int .i64 0) := by rw [World.ownsRow.cellAt hown _ (by omega), ← hxl2]; simp
     have e1 : w2.cell? ⟨g2, N * 7 + 1, none⟩ = some (.bool false) := by rw [World.ownsRow.cellAt hown _ (by omega), ← hxl2]; simp
     have e2 : w2.cell? ⟨g2, N * 7 + 2, none⟩ = some (.slice none 0 0) := by rw [World.ownsRow.cellAt hown _ (by omega), ← hxl2]; simp
     have e3 : w2.cell? ⟨g2, N * 7 + 3, none⟩ = some (.string ⟨#[]⟩) := by rw [World.ownsRow.cellAt hown _ (by omega), ← hxl2]; simp
     have e4 : w2.cell? ⟨g2, N * 7 + 4, none⟩ = some (.int .i64 0) := by rw [World.ownsRow.cellAt hown _ (by omega), ← hxl2]; simp
     have e5 : w2.cell? ⟨g2, N * 7 + 5, none⟩ = some (.slice none 0 0) := by rw [World.ownsRow.cellAt hown _ (by omega), ← hxl2]; simp
     have e6 : w2.cell? ⟨g2, N * 7 + 6, none⟩ = some (.slice none 0 0) := by rw [World.ownsRow.cellAt hown _ (by omega), ← hxl2]; simp
     have ef := World.ownsRow.frozenAt hown
     have hfx := hfar.out g2 w2 hgrow hg2
     obtain ⟨r0, r1, r2, rf, s0, s1, s2, s3, s4, s5, s6, hne1, hne2, hne3, hrw2⟩ := hfx
     clear hxl2)
   all_goals (go_wp2_with fail; go_meet)
   all_goals first
     | with_reducible exact hfin.out g2 cap2 w2 _ hgrow hg2 (finA hown hxl.out hrw2.out hne1 _ _ _ _ _ _ _ honc)
     | with_reducible exact hfin.out g2 cap2 w2 _ hgrow hg2 (finB hown hxl.out hrw2.out hne1 _ _ _ _ _ _ _ honc)
 case rest =>
   obtain ⟨g2, cap2, hS2, hRow2, hAp2, hB2⟩ := hcut
   have hlN : N + 1 = (o.add T).its.length := by simp [Op.add, hNN]
   rw [hlN] at hRow2 hAp2
   change RowM B Z wc (o.add T) _ at hRow2
   have hvc2 := hid (show (o.add T).its.length ≤ cap2 by
     obtain ⟨o3, c3, e3, h3⟩ := own_sl hRow2.own
     simp only [Value.slice.injEq, true_and] at e3
     obtain ⟨_, rfl⟩ := e3
     exact h3)
   have hl9 : (o.add T).its.length ≤ 900000 := by omega
   have hct := okO_lt hok2.out
   have hTw : ∀ w', Kpt (fun b => b = g) wc w' → Tabs w' := fun w' hk => hTb.below (hb.trans (((hB2.mono (fun _ h => h)).trans (hk.mono (fun _ h => .inl h))).below hb.size (fun k hk' => hk'.elim (fun e => e ▸ hWg) (fun e => Nat.le_trans hWB e))))
   have hTwH := hid hTw
   have c1 := skip_w g r _ o.c _ rfl hct wc hS2.rdr (hTw wc (Kpt.refl _ _))
   obtain ⟨y0, y1, y2⟩ := cell3 hRow2.at_
   have hS2H := hid hS2
   have hRow2H := hid hRow2
   have hAp2H := hid hAp2
   have hB2H := hid hB2
   clear hfin hfar hcr hxl hvbH hOV hOwnV hKV x0 x1 x2 x3 x4 x5 x6 b0 b1 b2 bfr hO0 a0 a1 af0 af1 hcell1 hW1H hVH hRVH hBV hWs hVs honez honc n1 n2 n3 n4 hTb hTw hS2 hRow2 hAp2 hB2 hvc
   obtain ⟨sb, hsb⟩ : ∃ sb, skB o.c r = sb := ⟨_, rfl⟩
   obtain ⟨r1, hr1⟩ : ∃ r1, skR o.c r = r1 := ⟨_, rfl⟩
   have hr1n : Hid (sb = false → r1 = r) := hid (fun e => by rw [← hr1]; exact skR_no (by rw [hsb, e]))
   rw [hsb, hr1] at c1
   have hRq : Hid ((if sb = true then (hdO (wholeL (o.add T)), r1) else if o.bar = true then (Hd.no, r) else if skB 44 r = true then (Hd.rw (o.add T), skR 44 r) else if o.c = 93 ∧ skB 124 r = true then (Hd.rw ⟨o.c, o.its ++ [T], true⟩, skR 124 r) else (Hd.no, r)) = R) := hid (by rw [← hRp.out, hsb, hr1])
   clear hRp hsb hr1
   have hl9H := hid hl9
   have hcbar : (o.add T).bar = o.bar := rfl
   have hcc : (o.add T).c = o.c := rfl
   rw [hcbar, hcc] at *
   clear hlN hl9 hcbar hcc hNN hmm hN hm
   go_wp2_with fail
   refine c1.mono ?_
   rintro e w1 ⟨rfl, h1, k1⟩
   have hS3 := hid (hS2H.out.on h1 k1 (fun _ hk => hk) (fun k hk => ⟨Nat.lt_of_lt_of_le (hS2H.out.zl k hk) k1.size, .inl hk⟩))
   have hRow3 := hid (hRow2H.out.kpt hS2H.out k1)
   have hB3 := hid (hB2H.out.trans (k1.mono (fun _ h => .inl h)))
   have hTw1 := hTwH.out w1 k1
   have hk1 := hid k1
   clear y0 y1 y2 c1 h1 k1
   obtain ⟨y0, y1, y2⟩ := cell3 hRow3.out.at_
   cases sb with
   | true =>
     have hR2 : R = (hdO (wholeL (o.add T)), r1) := by rw [← hRq.out, if_pos rfl]
     subst hR2
     have cw := whole_w _ ub (o.add T) _ cap2 w1 hRow3.out.at_ hvc2.out hRow3.out.tr hl9H.out (by obtain ⟨q1, q2⟩ := hok2.out; exact ⟨q1, fun e => ⟨by simp [Op.add], (q2 e).2⟩⟩) (fun k hk => hk.elim (hS3.out.zl k) (fun e => (hRow3.out.lt k (.inr e)).2))
     clear hRq hr1n hTw1
     go_wp2_with fail
     refine cw.mono ?_
     rintro e w2 ⟨v2, rfl, hL2, b2⟩
     have hfinS := hid (put_end hS3.out hRow3.out hAp2H.out hL2 b2)
     have hfinB := hid (hB3.out.trans (Kpt.of_below b2))
     clear cw hL2 b2
     go_wp2
     go_ret
     exact ⟨v2, rfl, hfinS.out, hfinB.out⟩
   | false =>
     have hr1e := hr1n.out rfl
     subst hr1e
     obtain ⟨bb, hbb⟩ : ∃ bb, o.bar = bb := ⟨_, rfl⟩
     replace y2 : w1.cell? ⟨ub, 2, none⟩ = some (.bool bb) := by rw [← hbb]; exact y2
     have hRq2 := hRq.out
     rw [if_neg (by simp), hbb] at hRq2
     have hbbH := hid hbb
     clear hbb hRq
     cases bb with
     | true =>
       have hR2 : R = (Hd.no, r1) := by rw [← hRq2, if_pos rfl]
       clear hRq2
       subst hR2
       have hfinS : Hid (StH B g r1 st Hd.no .nilIface w1) := hid ⟨Z, us', _, hS3.out, rfl⟩
       clear hr1n hTw1
       go_wp2
       go_ret
       exact ⟨_, rfl, hfinS.out, hB3.out⟩
     | false =>
       rw [if_neg (by simp)] at hRq2
       have c2 := skip_w g r1 _ 44 44 rfl (by decide) w1 hS3.out.rdr hTw1
       obtain ⟨s4, hs4⟩ : ∃ s4, skB 44 r1 = s4 := ⟨_, rfl⟩
       obtain ⟨q4, hq4⟩ : ∃ q4, skR 44 r1 = q4 := ⟨_, rfl⟩
       have hq4n : Hid (s4 = false → q4 = r1) := hid (fun e => by rw [← hq4]; exact skR_no (by rw [hs4, e]))
       rw [hs4, hq4] at c2 hRq2
       have hRq3 := hid hRq2
       clear hRq2 hs4 hq4 hr1n
       go_wp2_with fail
       refine c2.mono ?_
       rintro e w2 ⟨rfl, h2, k2⟩
       have hS4 := hid (hS3.out.on h2 k2 (fun _ hk => hk) (fun k hk => ⟨Nat.lt_of_lt_of_le (hS3.out.zl k hk) k2.size, .inl hk⟩))
       have hRow4 := hid (hRow3.out.kpt hS3.out k2)
       have hB4 := hid (hB3.out.trans (k2.mono (fun _ h => .inl h)))
       have hTw2 := hTwH.out w2 (hk1.out.trans k2)
       clear y0 y1 y2 c2 h2 k2 hTw1
       obtain ⟨y0, y1, y2⟩ := cell3 hRow4.out.at_
       cases s4 with
       | true =>
         have hR2 : R = (Hd.rw (o.add T), q4) := by rw [← hRq3.out, if_pos rfl]
         subst hR2
         have hfinS : Hid (StH B g q4 st (.rw (o.add T)) (.iface 61 (.pointer (some ⟨ub, 0, none⟩))) w2) := hid ⟨Z, us', _, hS4.out, _, rfl, hRow4.out, hAp2H.out⟩
         clear hRq3 hq4n hTw2
         go_wp2
         go_ret
         exact ⟨_, rfl, hfinS.out, hB4.out⟩
       | false =>
         have hq4e := hq4n.out rfl
         subst hq4e
         have hRq4 := hRq3.out
         rw [if_neg (by simp)] at hRq4
         clear hRq3
         obtain ⟨ci, hci⟩ : ∃ ci : Int, (o.c.toNat : Int) = ci := ⟨_, rfl⟩
         replace y0 : w2.cell? ⟨ub, 0, none⟩ = some (.int .i32 ci) := by rw [← hci]; exact y0
         have hRq5 := hid hRq4
         have hciH := hid hci
         clear hRq4 hci
         by_cases h93 : o.c = 93
         · have hci93 : ci = 93 := by rw [← hciH.out, h93]; rfl
           subst hci93
           have c3 := skip_w g q4 _ 124 124 rfl (by decide) w2 hS4.out.rdr hTw2
           obtain ⟨s5, hs5⟩ : ∃ s5, skB 124 q4 = s5 := ⟨_, rfl⟩
           obtain ⟨q5, hq5⟩ : ∃ q5, skR 124 q4 = q5 := ⟨_, rfl⟩
           have hq5n : Hid (s5 = false → q5 = q4) := hid (fun e => by rw [← hq5]; exact skR_no (by rw [hs5, e]))
           have hRq6 := hRq5.out
           rw [hs5, hq5] at c3 hRq6
           have hRq7 := hid hRq6
           have h93H := hid h93
           clear hRq5 hRq6 hs5 hq5 hq4n h93 hciH
           go_wp2_with fail
           refine c3.mono ?_
           rintro e w3 ⟨rfl, h3, k3⟩
           have hS5 := hid (hS4.out.on h3 k3 (fun _ hk => hk) (fun k hk => ⟨Nat.lt_of_lt_of_le (hS4.out.zl k hk) k3.size, .inl hk⟩))
           have hRow5 := hid (hRow4.out.kpt hS4.out k3)
           have hB5 := hid (hB4.out.trans (k3.mono (fun _ h => .inl h)))
           clear y0 y1 y2 c3 h3 k3 hTw2
           obtain ⟨y0, y1, y2⟩ := cell3 hRow5.out.at_
           have yf : w3.frozen? ⟨ub, 2, none⟩ = false := by simp [World.frozen?, hRow5.out.at_]
           cases s5 with
           | true =>
             have hR2 : R = (Hd.rw ⟨o.c, o.its ++ [T], true⟩, q5) := by rw [← hRq7.out, if_pos ⟨h93H.out, rfl⟩]
             subst hR2
             have hpb := put_bar hS5.out (c := o.c) (its := o.its ++ [T]) (bar := o.bar) hRow5.out hAp2H.out
             have hfinS : Hid (StH B g q5 st (.rw ⟨o.c, o.its ++ [T], true⟩) (.iface 61 (.pointer (some ⟨ub, 0, none⟩))) (w3.setCell ⟨ub, 2, none⟩ (.bool true))) := hid ⟨Z, us', _, hpb.1, _, rfl, hpb.2, hAp2H.out⟩
             have hB6 : Hid (Kpt (FR B g) w (w3.setCell ⟨ub, 2, none⟩ (.bool true))) := hid (hB5.out.trans (Kpt.of_set (F := FR B g) w3 (p := ⟨ub, 2, none⟩) (.inr hRow5.out.lo) _))
             clear hRq7 hq5n hpb
             go_wp2
             go_ret
             exact ⟨_, rfl, hfinS.out, hB6.out⟩
           | false =>
             have hq5e := hq5n.out rfl
             subst hq5e
             have hR2 : R = (Hd.no, q5) := by rw [← hRq7.out, if_neg (by simp)]
             subst hR2
             have hfinS : Hid (StH B g q5 st Hd.no .nilIface w3) := hid ⟨Z, us', _, hS5.out, rfl⟩
             clear hRq7 hq5n
             go_wp2
             go_ret
             exact ⟨_, rfl, hfinS.out, hB5.out⟩
         · have hci93 : (ci == 93) = false := by
             have : ci ≠ 93 := fun e => h93 (UInt8.toNat_inj.1 (by have h9 := hciH.out; have : (93 : UInt8).toNat = 93 := rfl; omega))
             simp [this]
           have hR2 : R = (Hd.no, q4) := by rw [← hRq5.out, if_neg (fun e => h93 e.1)]
           subst hR2
           have hfinS : Hid (StH B g q4 st Hd.no .nilIface w2) := hid ⟨Z, us', _, hS4.out, rfl⟩
           clear hRq5 hq4n hTw2 h93 hciH
           go_wp2
           go_ret
           exact ⟨_, rfl, hfinS.out, hB4.out⟩
end Go.Proofs.YtlojfmlaookpmaaGreatDoor
