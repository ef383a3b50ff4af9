/- Texts of mine, one behind the other: TextRdG, TextLaid, TextRdI, TextRdJ, CpyTup. -/
import Derived.Test.YtlojfmlaookpmaaGreatDoorSqS
import Derived.Test.YtlojfmlaookpmaaGreatDoorSqK
import Derived.Test.YtlojfmlaookpmaaGreatDoorTie
import Derived.Test.YtlojfmlaookpmaaGreatDoorCards
import Derived.PinnedBridge
import Derived.Lib.LaidU8T
import Derived.Lay
import Derived.ProofKit
import Derived.LaidMore
import Derived.SevenTiedAt
import Derived.Lib.LaidTab
import Derived.Test.YtlojfmlaookpmaaGreatDoorSqP
import Derived.Test.YtlojfmlaookpmaaGreatDoorSqO
set_option linter.unusedSimpArgs false
set_option linter.unusedVariables false
set_option maxRecDepth 2000
open List renaming getElem_toArray → zga, getElem_cons_succ → zgs, getElem_cons_zero → zgz, setIfInBounds_toArray → zsa, set_cons_succ → zss, set_cons_zero → zsz
open Array renaming getElem?_eq_some_iff → zge
namespace Go.Proofs.YtlojfmlaookpmaaGreatDoor
open Go.ChangeShapes Go.WideShapes Go.ChangeAt Go.RowKit Go.Shelf
theorem as_rr (x : Value) (w : World) : (Instr.typeAssert (.iface 61 x) 59 61 true).run Tryz.prog w = .ok (.tuple #[x, .bool true]) w := by kernel_rfl
theorem as_er (x : Value) (w : World) : (Instr.typeAssert (.iface 27 x) 59 61 true).run Tryz.prog w = .ok (.tuple #[.pointer none, .bool false]) w := by kernel_rfl
theorem as_nr (w : World) : (Instr.typeAssert .nilIface 59 61 true).run Tryz.prog w = .ok (.tuple #[.pointer none, .bool false]) w := by kernel_rfl
theorem as_ne (w : World) : (Instr.typeAssert .nilIface 59 27 true).run Tryz.prog w = .ok (.tuple #[.agg #[.int .i64 0, .bool false, .slice none 0 0, .string ⟨#[]⟩, .int .i64 0, .slice none 0 0, .slice none 0 0], .bool false]) w := by kernel_rfl
theorem infoPR : (Tryz.prog.info? 61).map (fun i => (i.zero, i.size, i.bytes)) = some (some (.pointer none), 1, 8) := by kernel_rfl
theorem push_mem {B g : Nat} {Z : Nat → Prop} {r : List UInt8} {st : List Op} {us : List Un} {ov : Value} {w w2 : World} {o : Op} {u : Un} {g2 c2 : Nat} (hS : RdS B g Z r st us ov w) (hR : RowM B Z w o u) (hA : Apart u us) (hg : (w.alloc (.cells #[ptrU u] 61)).grownBy w2 ov.ownBlock) (hg2 : ov.ownBlock = some g2 ∨ g2 = w.heap.size + 1)
   (hown : w2.ownsRow B 61 1 (.slice (some ⟨g2, 0, none⟩) (st.length + 1) c2) (st.length + 1) (us.reverse.map ptrU ++ [ptrU u])) :
   w2.cell? ⟨g, 1, none⟩ = some ov ∧ w2.frozen? ⟨g, 1, none⟩ = false ∧ RdS B g Z r (o :: st) (u :: us) (.slice (some ⟨g2, 0, none⟩) (st.length + 1) c2) (w2.setCell ⟨g, 1, none⟩ (.slice (some ⟨g2, 0, none⟩) (st.length + 1) c2)) ∧ Kpt (FR B g) w (w2.setCell ⟨g, 1, none⟩ (.slice (some ⟨g2, 0, none⟩) (st.length + 1) c2)) := by
 have hsz : (w.alloc (.cells #[ptrU u] 61)).heap.size = w.heap.size + 1 := by simp
 have hs2 := hg.size
 have ha : ∀ q, q < w.heap.size → (w.alloc (.cells #[ptrU u] 61)).heap[q]? = w.heap[q]? := fun q hq => ((Below.refl w.heap.size w).alloc (Nat.le_refl _) _).block q hq
 have key : ∀ q, q < w.heap.size → ov.ownBlock ≠ some q → w2.heap[q]? = w.heap[q]? := fun q hq hn => (hg.block q (by omega) (fun e => hn e.symm)).trans (ha q hq)
 have hgo : ov.ownBlock ≠ some g := fun e => by
   obtain ⟨_, c, hc⟩ := hS.oty g e
   exact hS.ne_g hc (by decide) rfl
 have hgl := hS.rdr.lt
 have hg2g : g2 ≠ g := fun e => by
   rcases hg2 with h2 | h2
   · exact hgo (e ▸ h2)
   · omega
 have hgw2 := (key g hgl hgo).trans hS.rdr.at_
 have hz : ∀ q, Z q → w2.heap[q]? = w.heap[q]? := fun q hq => key q (hS.zl q hq) (fun e => hS.zo q e hq)
 have hu : ∀ (o' : Op) (u' : Un), RowM B Z w o' u' → ∀ q, u'.owns q → w2.heap[q]? = w.heap[q]? ∧ q ≠ g := fun o' u' h' q hq => by
   obtain ⟨c, e, hc, he⟩ := h'.ty q hq
   refine ⟨key q (h'.lt q hq).2 (fun e2 => ?_), hS.ne_g hc (by rcases he with rfl | rfl <;> decide)⟩
   obtain ⟨_, c', hc'⟩ := hS.oty q e2
   rw [hc] at hc'
   simp only [Option.some.injEq, Obj.cells.injEq] at hc'
   obtain ⟨_, rfl, _⟩ := hc'
   rcases he with he | he <;> revert he <;> decide
 have on1 := only_set w2 g 1 (.slice (some ⟨g2, 0, none⟩) (st.length + 1) c2)
 have hgx : (w2.setCell ⟨g, 1, none⟩ (.slice (some ⟨g2, 0, none⟩) (st.length + 1) c2)).heap[g]? = some (.cells #[.string (bs r), .slice (some ⟨g2, 0, none⟩) (st.length + 1) c2] 45 (0, 0)) := (heap_put hgw2 _).2
 refine ⟨by simp [World.cell?, hgw2], by simp [World.frozen?, hgw2], ?_⟩
 generalize (w2.setCell ⟨g, 1, none⟩ (.slice (some ⟨g2, 0, none⟩) (st.length + 1) c2)) = W at *
 have hWs : W.heap.size = w2.heap.size := on1.2.1
 have hzW : ∀ q, Z q → W.heap[q]? = w.heap[q]? := fun q hq => (on1.2.2 q (fun e => hS.zg (e ▸ hq))).trans (hz q hq)
 refine ⟨⟨⟨hgx⟩, ?_, ⟨u, us, rfl, hR.on hzW (fun q hq => (on1.2.2 q (hu o u hR q hq).2).trans (hu o u hR q hq).1) (fun _ h => h) hR.nz, hA, hS.stk.on hzW (fun u' hu' q hq => ?_) (fun _ h => h) (fun u' hu' q hq => ?_)⟩, by have := hS.gl; omega, fun q hq => by have := hS.zl q hq; omega, hS.zb, hS.zg, fun q hq hzq => ?_⟩, ?_⟩
 · simp only [List.length_cons, List.reverse_cons, List.map_append, List.map_cons, List.map_nil]
   exact own_blkS hown (fun q hq => on1.2.2 q (fun e => by simp only [Value.ownBlock, Option.some.injEq] at hq; exact hg2g (hq.trans e)))
 · obtain ⟨o', ho'⟩ := hS.stk.mem u' hu'
   exact (on1.2.2 q (hu o' u' ho' q hq).2).trans (hu o' u' ho' q hq).1
 · obtain ⟨o', ho'⟩ := hS.stk.mem u' hu'
   exact ho'.nz q hq
 · simp only [Value.ownBlock, Option.some.injEq] at hq
   subst hq
   rcases hg2 with h2 | h2
   · exact hS.zo _ h2 hzq
   · have := hS.zl _ hzq; omega
 · refine ⟨on1.1.os.trans hg.os, on1.1.tape.trans hg.tape, on1.1.output.trans hg.output, by omega, fun q hq hn => ?_⟩
   exact (on1.2.2 q (fun e => hn (.inl e))).trans (key q hq (fun e => hn (.inr (hS.oty q e).1)))
theorem tv_only {Z : Nat → Prop} {S g : Nat} {w w' : World} {T : Tm} {v : Value} (h : TV Z w T v) (hz : ∀ q, Z q → q < w.heap.size ∧ q ≠ g ∧ S ≤ q) (ho : Only g w w') : TV (fun k => S ≤ k ∧ k < w'.heap.size) w' T v :=
 TV.mono (fun q _ hq => ⟨(hz q hq).2.2, by rw [ho.2.1]; exact (hz q hq).1⟩) _ _ (TV.zs (fun q hq => ho.2.2 q (hz q hq).2.1) _ _ h)
def LpR (B g : Nat) (W1 : World) (R : Option Tm × List UInt8) (t : Nat) (v : Value) (wr : World) : Prop :=
 ∃ r1 st hd, StH B g r1 st hd v wr ∧ Lib.validD r1 = true ∧ okH hd ∧ (∀ o ∈ st, okOp o) ∧ wtS st + wtH hd + r1.length ≤ 65537 ∧ hdF hd r1 ≤ t ∧ goL r1 st hd = R ∧ Kpt (FR B g) W1 wr
theorem Rdr.of_only {g k : Nat} {r : List UInt8} {ov : Value} {w w' : World} (h : Rdr g r ov w) (ho : Only k w w') (hk : g ≠ k) : Rdr g r ov w' := ⟨(ho.2.2 g hk).trans h.at_⟩
theorem kpt_new {B g : Nat} {w W1 w2 w3 : World} (hb : Below w.heap.size w W1) (hB : w.heap.size ≤ B) (h : Kpt (FR B g) W1 w2) (h2 : Below w2.heap.size w2 w3 ∨ Only w.heap.size w2 w3) : Kpt (fun k => k = g) w w3 := by
 have hs := hb.size
 have h' : Kpt (fun k => k = g ∨ w.heap.size ≤ k) w w2 := ⟨h.os.trans hb.os, h.tape.trans hb.tape, h.output.trans hb.output, Nat.le_trans hs h.size, fun k hk hn => (h.block k (by omega) (fun e => hn (e.elim .inl (fun e2 => .inr (by omega))))).trans (hb.block k hk)⟩
 rcases h2 with h2 | h2
 · exact ⟨h2.os.trans h'.os, h2.tape.trans h'.tape, h2.output.trans h'.output, Nat.le_trans h'.size h2.size, fun k hk hn => (h2.block k (Nat.lt_of_lt_of_le hk h'.size)).trans (h'.block k hk (fun e => e.elim hn (fun e2 => by omega)))⟩
 · exact ⟨h2.1.os.trans h'.os, h2.1.tape.trans h'.tape, h2.1.output.trans h'.output, Nat.le_trans h'.size (Nat.le_of_eq h2.2.1.symm), fun k hk hn => (h2.2.2 k (by omega)).trans (h'.block k hk (fun e => e.elim hn (fun e2 => by omega)))⟩
def ZnS (S : Nat) (w : World) : Nat → Prop := fun k => S ≤ k ∧ k < w.heap.size
def RdA (S : Nat) (w' : World) (o : Option Tm) (v : Value) : Prop :=
 match o with
 | none => v = .tuple #[.agg #[.int .i64 0, .bool false, .slice none 0 0, .string ⟨#[]⟩, .int .i64 0, .slice none 0 0, .slice none 0 0], .bool false]
 | some T => ∃ x, v = .tuple #[x, .bool true] ∧ TV (ZnS S w') w' T x
set_option maxHeartbeats 8000000 in
theorem read_w (g : Nat) (r : List UInt8) (w W : World) (hr : r.length ≤ 65536) (hR : Rdr g r (.slice none 0 0) w) (hv : Lib.validD r = true) (hT : TabsQ W) (hWg : W.heap.size ≤ g) (hb : Below W.heap.size W w) :
   Calls Tryz.prog 14 #[.pointer (some ⟨g, 0, none⟩)] w fun e w' => ∃ v, e = .returned v ∧ RdA w.heap.size w' (readL r).1 v ∧ (∃ ov, Rdr g (readL r).2 ov w') ∧ Kpt (fun k => k = g) w w' := by
 have hgl := hR.lt
 obtain ⟨W1, hW1⟩ : ∃ W1, W1 = w.alloc (.cells #[.int .i64 0, .bool false, .slice none 0 0, .string ⟨#[]⟩, .int .i64 0, .slice none 0 0, .slice none 0 0] 27) := ⟨_, rfl⟩
 have bW : Below w.heap.size w W1 := by rw [hW1]; exact (Below.refl _ w).alloc (Nat.le_refl _) _
 have hrb : Hid (W1.heap[w.heap.size]? = some (.cells #[.int .i64 0, .bool false, .slice none 0 0, .string ⟨#[]⟩, .int .i64 0, .slice none 0 0, .slice none 0 0] 27 (0, 0))) := hid (by rw [hW1]; exact heap_alloc_new w _)
 have hWs : W1.heap.size = w.heap.size + 1 := by rw [hW1]; simp
 have hR1 := hR.below bW
 have hb1 : Below W.heap.size W W1 := hb.trans (below_le bW hb.size)
 have hS1 : RdS (w.heap.size + 1) g (fun _ => False) r [] [] (.slice none 0 0) W1 := ⟨hR1, World.ownsRow_nil _ _ _ _, rfl, by omega, fun _ h => h.elim, fun _ h => h.elim, fun h => h, fun _ _ h => h⟩
 have c1 := begin_s (w.heap.size + 1) g (fun _ => False) r [] [] _ W1 W (by omega) hS1 hv hT hWg hb1
 obtain ⟨R, hRe⟩ : ∃ R, readL r = R := ⟨_, rfl⟩
 rw [hRe]
 rw [readL_go] at hRe
 have hReH := hid hRe
 have hW1H := hid hW1
 have hbWH := hid bW
 have hvH := hid hv
 have hTH := hid hT
 have hbH := hid hb1
 clear hRe hR hR1 hS1 hb1 hb bW hW1 hv hT
 go_enter Tryz.func14, Tryz.ntmps14
 go_upto_region 1 with fail
 rw [← hW1H.out]
 clear hW1H
 go_wp2_with fail
 refine c1.mono ?_
 rintro e w1 ⟨v1, rfl, hSt, hK⟩
 have hL1 : Hid (LpR (w.heap.size + 1) g W1 R (r.length + 1) v1 w1) := hid ⟨_, _, _, hSt, beginL_vd hvH.out, (beginL_ok r).1, fun o ho => by simp at ho, by
     have h1 := (beginL_ok r).2
     have h2 := beginL_le r
     have h3 := beginL_shr r
     simp only [wtS]
     omega, hdF_begin (Nat.le_refl _), hReH.out, hK⟩
 clear c1 hSt hK
 go_wp2_with fail
 go_loopg [4] (r.length + 1) (fun t v4 wr => Hid (LpR (w.heap.size + 1) g W1 R t v4 wr))
 case atStart => exact hL1
 case round =>
   obtain ⟨r1, st, hd, hSt, hvd, hok, hoks, hwt, hfu, hgo, hK⟩ := hrel.out
   clear hrel hL1
   have hrbr : wr.heap[w.heap.size]? = some (.cells #[.int .i64 0, .bool false, .slice none 0 0, .string ⟨#[]⟩, .int .i64 0, .slice none 0 0, .slice none 0 0] 27 (0, 0)) := (hK.block _ (by omega) (fun h => by rcases h with h | h <;> omega)).trans hrb.out
   obtain ⟨e0, e1, e2, e3, e4, e5, e6⟩ := cell7 hrbr
   have efr : ∀ j, wr.frozen? ⟨w.heap.size, j, none⟩ = false := (res7 hrbr).fr
   cases hd with
   | no =>
     obtain ⟨Z, us, ov, hS, rfl⟩ := hSt
     have hS2 := hid hS
     have a1 := as_nr
     have a2 := as_ne
     have hR2 : R = (none, r1) := hgo.symm
     subst hR2
     have hKH := hid hK
     have hrbH := hid hrbr
     clear hS hK hgo hok hoks hvd hwt hfu hReH e0 e1 e2 e3 e4 e5 e6 efr hrbr
     go_upto_region 8 with fail
     generalize hA : World.alloc wr _ = WA
     have bA : Below wr.heap.size wr WA := by rw [← hA]; exact (Below.refl _ wr).alloc (Nat.le_refl _) _
     have hrbA := (bA.block _ (zge.1 hrbH.out).1).trans hrbH.out
     obtain ⟨e0, e1, e2, e3, e4, e5, e6⟩ := cell7 hrbA
     have efr : ∀ j, WA.frozen? ⟨w.heap.size, j, none⟩ = false := (res7 hrbA).fr
     have hp7 := heap_put7 hrbA (.int .i64 0) (.bool false) nilS (.string noS) (.int .i64 0) nilS nilS
     have hon := only_put WA w.heap.size (.int .i64 0) (.bool false) nilS (.string noS) (.int .i64 0) nilS nilS
     obtain ⟨q0, q1, q2, q3, q4, q5, q6⟩ := cell7 hp7
     have hRF := hid ((hS2.out.rdr.below bA).of_only hon (by omega))
     have hKF := hid (kpt_new hbWH.out (Nat.le_succ _) (hKH.out.trans (Kpt.of_below bA)) (.inr hon))
     clear hA hp7 hon hrbA bA
     go_wp2
     exact bodyPost_ret (v := .tuple #[.agg #[.int .i64 0, .bool false, nilS, .string noS, .int .i64 0, nilS, nilS], .bool false]) (by simp [results, Tryz.results14, go_sem, q0, q1, q2, q3, q4, q5, q6]) rfl ⟨_, rfl, rfl, ⟨ov, hRF.out⟩, hKF.out⟩
   | rw o =>
     obtain ⟨Z, us, ov, hS, u, rfl, hRow, hAp⟩ := hSt
     obtain ⟨i0, hi, hz0, hz1, hz2⟩ := info_parts infoPR
     have hstl := wt_len st
     obtain ⟨g2, c2, w2, hrn, hown, hgr, hg2, hlt2⟩ := run_append_lies (P := Tryz.prog) (wr.alloc (.cells #[ptrU u] 61)) 43 43 (w.heap.size + 1) 61 i0 (.pointer none) 1 8 Tryz.underlying43 hi hz0 hz1 hz2 rfl (by decide) ov st.length (us.reverse.map ptrU) (World.ownsRow.alloc hS.own _) ⟨wr.heap.size, 0, none⟩ 1 1 [ptrU u] rfl (cell_one_new _ _ _) (by intro y hy; simp at hy; subst hy; rfl) (by decide) (by unfold maxLen; omega) (by omega) (by simp; have := hS.gl; omega) (wr.heap.size + 1) (by simp)
     obtain ⟨p1, p2, hS2, hK2⟩ := push_mem hS hRow hAp hgr hg2 hown
     obtain ⟨z0, z1, f0, f1⟩ := hS.rdr.cells
     have a1 := as_rr (.pointer (some ⟨u.b, 0, none⟩))
     have hsh := beginL_shr r1
     have hle := beginL_le r1
     have hbb := hbH.out.trans (((hK.trans hK2).below hbH.out.size (fun k hk => hk.elim (fun e => e ▸ hWg) (fun e => by have := hbWH.out.size; have := hbH.out.size; omega))))
     have c2' := begin_s (w.heap.size + 1) g Z r1 (o :: st) (u :: us) _ _ W (by omega) hS2 hvd hTH.out hWg hbb
     have hnew : Hid (∀ v3 w3, StH (w.heap.size + 1) g (beginL r1).2 (o :: st) (bgH (beginL r1).1) v3 w3 → Kpt (FR (w.heap.size + 1) g) (w2.setCell ⟨g, 1, none⟩ (.slice (some ⟨g2, 0, none⟩) (st.length + 1) c2)) w3 → LpR (w.heap.size + 1) g W1 R (hdF (bgH (beginL r1).1) (beginL r1).2) v3 w3) := hid (fun v3 w3 h3 k3 => ⟨_, _, _, h3, beginL_vd hvd, (beginL_ok r1).1, fun o' ho' => (List.mem_cons.1 ho').elim (fun e => e ▸ hok) (hoks o'), by
       have h1 := (beginL_ok r1).2
       have hwt2 : wtS st + wtO o + r1.length ≤ 65537 := hwt
       show wtO o + wtS st + wtH (bgH (beginL r1).1) + (beginL r1).2.length ≤ 65537
       by_cases hno : bgH (beginL r1).1 = .no
       · rw [hno]; simp only [wtH]; omega
       · have := hsh hno; omega, Nat.le_refl _, by rw [← goL_rw]; exact hgo, (hK.trans hK2).trans k3⟩)
     have hfz : Hid (hdF (bgH (beginL r1).1) (beginL r1).2 < gk) := hid (by
       have := hdF_begin (r := r1) (Nat.le_refl _)
       simp only [hdF] at hfu
       omega)
     obtain ⟨oo, cc, rfl⟩ := own_form hS.own
     have hstz : Hid (st.length ≤ 65537) := hid (by omega)
     clear hS hRow hAp hgr hown hS2 hK2 hsh hle hbb hK hgo hok hoks hvd hwt hfu e0 e1 e2 e3 e4 e5 e6 efr hrbr hg2 hlt2 hstl
     unfold ptrU at hrn
     go_wp2_with (at_builtin; refine Lib.wpList_append_run _ rfl _ _ _ _ rfl _ _ rfl rfl _ _ hrn ?_)
     refine c2'.mono ?_
     rintro e w3 ⟨v3, rfl, hSt3, hK3⟩
     have hL3 := hid (hnew.out v3 w3 hSt3 hK3)
     clear c2' hSt3 hK3 hnew
     go_wp2
     go_roundg (hdF (bgH (beginL r1).1) (beginL r1).2)
     case measure => exact hfz.out
     case rel => exact hL3
   | tm T =>
     obtain ⟨Z, us, ov, hS, x, rfl, hTV⟩ := hSt
     obtain ⟨k, neg, od, ld, cd, nm, n, ol, ll, cl, ob, lb, cb, rfl⟩ := hTV.form
     have a1 := as_er (tmV k neg (.slice od ld cd) nm n (.slice ol ll cl) (.slice ob lb cb))
     have a2 := as_ee (tmV k neg (.slice od ld cd) nm n (.slice ol ll cl) (.slice ob lb cb))
     unfold tmV at a1 a2
     obtain ⟨WA, hWA⟩ : ∃ WA, WA = wr.alloc (.cells #[.int .i64 k, .bool neg, .slice od ld cd, .string nm, .int .i64 n, .slice ol ll cl, .slice ob lb cb] 27) := ⟨_, rfl⟩
     have bA : Below wr.heap.size wr WA := by rw [hWA]; exact (Below.refl _ wr).alloc (Nat.le_refl _) _
     have hxA : WA.heap[wr.heap.size]? = some (.cells #[.int .i64 k, .bool neg, .slice od ld cd, .string nm, .int .i64 n, .slice ol ll cl, .slice ob lb cb] 27 (0, 0)) := by rw [hWA]; exact heap_alloc_new wr _
     obtain ⟨x0, x1, x2, x3, x4, x5, x6⟩ := cell7 hxA
     have hSA : RdS (w.heap.size + 1) g Z r1 st us ov WA := hS.on (hS.rdr.below bA) (Kpt.of_below bA) (fun _ h => h) (fun q hq => ⟨Nat.lt_of_lt_of_le (hS.zl q hq) bA.size, .inl hq⟩)
     have hTA : TV Z WA T (tmV k neg (.slice od ld cd) nm n (.slice ol ll cl) (.slice ob lb cb)) := TV.zs (fun q hq => bA.block q (hS.zl q hq)) _ _ hTV
     have hKA := hK.trans (Kpt.of_below bA)
     obtain ⟨z0, z1, f0, f1⟩ := hSA.rdr.cells
     obtain ⟨oo, cc, rfl⟩ := own_form hSA.own
     have hrbA := (bA.block _ (zge.1 hrbr).1).trans hrbr
     have hWAH := hid hWA
     cases st with
     | nil =>
       have hR2 : R = (some T, r1) := hgo.symm
       subst hR2
       obtain ⟨e0, e1, e2, e3, e4, e5, e6⟩ := cell7 hrbA
       have efr2 : ∀ j, WA.frozen? ⟨w.heap.size, j, none⟩ = false := (res7 hrbA).fr
       have hp7 := heap_put7 hrbA (.int .i64 k) (.bool neg) (.slice od ld cd) (.string nm) (.int .i64 n) (.slice ol ll cl) (.slice ob lb cb)
       have hon := only_put WA w.heap.size (.int .i64 k) (.bool neg) (.slice od ld cd) (.string nm) (.int .i64 n) (.slice ol ll cl) (.slice ob lb cb)
       obtain ⟨q0, q1, q2, q3, q4, q5, q6⟩ := cell7 hp7
       have hRF := hid (hSA.rdr.of_only hon (by omega))
       have hKF := hid (kpt_new hbWH.out (Nat.le_succ _) hKA (.inr hon))
       have hTF : Hid (TV (ZnS w.heap.size (((((((WA.setCell ⟨w.heap.size, 0, none⟩ (.int .i64 k)).setCell ⟨w.heap.size, 1, none⟩ (.bool neg)).setCell ⟨w.heap.size, 2, none⟩ (.slice od ld cd)).setCell ⟨w.heap.size, 3, none⟩ (.string nm)).setCell ⟨w.heap.size, 4, none⟩ (.int .i64 n)).setCell ⟨w.heap.size, 5, none⟩ (.slice ol ll cl)).setCell ⟨w.heap.size, 6, none⟩ (.slice ob lb cb))) (((((((WA.setCell ⟨w.heap.size, 0, none⟩ (.int .i64 k)).setCell ⟨w.heap.size, 1, none⟩ (.bool neg)).setCell ⟨w.heap.size, 2, none⟩ (.slice od ld cd)).setCell ⟨w.heap.size, 3, none⟩ (.string nm)).setCell ⟨w.heap.size, 4, none⟩ (.int .i64 n)).setCell ⟨w.heap.size, 5, none⟩ (.slice ol ll cl)).setCell ⟨w.heap.size, 6, none⟩ (.slice ob lb cb)) T (tmV k neg (.slice od ld cd) nm n (.slice ol ll cl) (.slice ob lb cb))) := hid (tv_only hTA (fun q hq => ⟨hSA.zl q hq, fun e => by have := hSA.zb q hq; omega, by have := hSA.zb q hq; omega⟩) hon)
       simp only [List.length_nil] at z1
       clear hS hTV hK hgo hok hoks hvd hwt hfu hReH hrbr hSA hTA hKA hrbA hon hp7 bA hxA hWA efr
       go_upto_region 7 with fail
       rw [← hWAH.out]
       clear hWAH
       go_wp2
       exact bodyPost_ret (v := .tuple #[tmV k neg (.slice od ld cd) nm n (.slice ol ll cl) (.slice ob lb cb), .bool true]) (by simp [results, Tryz.results14, go_sem, q0, q1, q2, q3, q4, q5, q6]) rfl ⟨_, rfl, ⟨_, rfl, hTF.out⟩, ⟨_, hRF.out⟩, hKF.out⟩
     | cons o st =>
       have hstl := wt_len st
       have hbb := hbH.out.trans (hKA.below hbH.out.size (fun k hk => hk.elim (fun e => e ▸ hWg) (fun e => by have := hbWH.out.size; have := hbH.out.size; omega)))
       have hshr := (putL_shr o T r1).2
       have hle := (putL_shr o T r1).1
       have hpo := putL_ok (T := T) (r := r1) (hoks o (by simp))
       have cP := put_w (w.heap.size + 1) g r1 o st T (tmV k neg (.slice od ld cd) nm n (.slice ol ll cl) (.slice ob lb cb)) WA W (by omega) (by omega) (hoks o (by simp)) ⟨Z, us, _, hSA, _, rfl, hTA⟩ hTH.out.1 (by have := hbWH.out.size; have := hbH.out.size; omega) hWg hbb
       have hnew : Hid (∀ v3 w3, StH (w.heap.size + 1) g (putL o T r1).2 st (putL o T r1).1 v3 w3 → Kpt (FR (w.heap.size + 1) g) WA w3 → LpR (w.heap.size + 1) g W1 R (hdF (putL o T r1).1 (putL o T r1).2) v3 w3) := hid (fun v3 w3 h3 k3 => ⟨_, _, _, h3, putL_vd (hoks o (by simp)) hvd, hpo.1, fun o' ho' => hoks o' (List.mem_cons_of_mem _ ho'), by
         have h1 := hpo.2
         have hwt2 : wtO o + wtS st + 1 + r1.length ≤ 65537 := hwt
         by_cases hno : (putL o T r1).1 = .no
         · rw [hno]; simp only [wtH]; omega
         · have := hshr hno; omega, Nat.le_refl _, by rw [← goL_tm]; exact hgo, hKA.trans k3⟩)
       have hfz : Hid (hdF (putL o T r1).1 (putL o T r1).2 < gk) := hid (by
         have := hdF_put (o := o) (T := T) (r := r1) (Nat.le_refl _)
         simp only [hdF] at hfu
         omega)
       have hne0 : (((o :: st).length : Int) == 0) = false := by simp only [List.length_cons]; simp; omega
       obtain ⟨ns, hns⟩ : ∃ ns, (o :: st).length = ns := ⟨_, rfl⟩
       rw [hns] at z1 hne0
       clear hns hstl hbb hshr hle hpo hS hTV hK hgo hok hoks hvd hwt hfu hReH hrbr hSA hTA hKA hrbA bA hxA hWA efr e0 e1 e2 e3 e4 e5 e6
       go_upto_region 7 with fail
       rw [← hWAH.out]
       clear hWAH
       go_wp2_with fail
       refine cP.mono ?_
       rintro e w3 ⟨v3, rfl, hSt3, hK3⟩
       have hL3 := hid (hnew.out v3 w3 hSt3 hK3)
       clear cP hSt3 hK3 hnew
       go_wp2
       go_roundg (hdF (putL o T r1).1 (putL o T r1).2)
       case measure => exact hfz.out
       case rel => exact hL3
theorem x8 : U8Extra Tryz.prog Tryz.lays196_ren := ⟨by kernel_rfl, by kernel_rfl, by kernel_rfl, by kernel_rfl, by kernel_rfl, by kernel_rfl, by kernel_rfl⟩
def TabX (w : World) : Prop := TabsQ w ∧ Lib.TabBelow Tryz.prog w.heap.size w "internal/strconv.uint64pow10" .u64 Lib.pow10Tab
theorem TabX.below {w w' : World} (h : TabX w) (hb : Below w.heap.size w w') : TabX w' := ⟨h.1.below hb, tab_up h.2 hb⟩
theorem tabx_of_laid {W : World} (hL : laidMet Tryz.prog Rows.textReadsRow.laid W) : TabX W := by
 have h1 := Lib.laidMet.reads hL (n := (Rows.textReadsRow.laid[4]'(by decide)).1) (d := (Rows.textReadsRow.laid[4]'(by decide)).2) (List.getElem_mem _)
 have h2 := Lib.laidMet.reads hL (n := (Rows.textReadsRow.laid[3]'(by decide)).1) (d := (Rows.textReadsRow.laid[3]'(by decide)).2) (List.getElem_mem _)
 have h3 := Lib.laidMet.reads hL (n := (Rows.textReadsRow.laid[1]'(by decide)).1) (d := (Rows.textReadsRow.laid[1]'(by decide)).2) (List.getElem_mem _)
 have h4 := Lib.laidMet.reads hL (n := (Rows.textReadsRow.laid[2]'(by decide)).1) (d := (Rows.textReadsRow.laid[2]'(by decide)).2) (List.getElem_mem _)
 refine ⟨⟨?_, ?_⟩, ?_⟩
 · refine utf8Tabs_of_readsT (U8Types.of196 Tryz.lays196) x8 ?_ ?_
   · rw [← Pinned.utf8First_eq]; exact h1
   · rw [show Lib.acceptData = Rows.laid_unicode_utf8_acceptRanges by kernel_rfl]; exact h2
 · intro j hj
   obtain ⟨g, t, cs, fuel, p, hg, hty, hvar, hd⟩ := h3
   have hg5 : Tryz.prog.globalNamed (Rows.textReadsRow.laid[1]'(by decide)).1 = some 4 := by kernel_rfl
   obtain rfl := Option.some.inj (hg5.symm.trans hg)
   have hty5 : (Tryz.prog.globals[4]?).map (·.type) = some 188 := by kernel_rfl
   obtain rfl := Option.some.inj (hty5.symm.trans hty)
   have hd' : DataW.trod (fun _ => ()) Tryz.prog W 0 (fun _ => true) false fuel 188 cs.toList = some (Lib.tabData .u8 (Lib.deBruijn64tab.map fun (n : Nat) => (n : Int)), p) := by
     rw [show (Lib.tabData .u8 (Lib.deBruijn64tab.map fun (n : Nat) => (n : Int)) : DataW Unit) = Rows.laid_math_bits_deBruijn64tab by kernel_rfl]; exact hd
   have hcs := Lib.cells_of_tab Tryz.underlying188 Tryz.underlying5 (by kernel_rfl) (by kernel_rfl) hd'
   have := World.var?_cell hg hvar j
   rw [this, ← Array.getElem?_toList, hcs]
   simp [hj]
 · refine Lib.tabBelow_of_tabIs ?_
   obtain ⟨g, t, cs, fuel, p, hg, hty, hvar, hd⟩ := h4
   have hg5 : Tryz.prog.globalNamed "internal/strconv.uint64pow10" = some 2 := by kernel_rfl
   obtain rfl := Option.some.inj (hg5.symm.trans hg)
   have hty5 : (Tryz.prog.globals[2]?).map (·.type) = some 182 := by kernel_rfl
   obtain rfl := Option.some.inj (hty5.symm.trans hty)
   have hd' : DataW.trod (fun _ => ()) Tryz.prog W 0 (fun _ => true) false fuel 182 cs.toList = some (Lib.tabData .u64 Lib.pow10Tab, p) := by
     rw [show (Lib.tabData .u64 Lib.pow10Tab : DataW Unit) = Rows.laid_internal_strconv_uint64pow10 by kernel_rfl]; exact hd
   have hcs := Lib.cells_of_tab Tryz.underlying182 Tryz.underlying121 (by kernel_rfl) (by kernel_rfl) hd'
   unfold Lib.TabIs
   rw [show W.var? Tryz.prog "internal/strconv.uint64pow10" = some cs from hvar, ← hcs]
def rdE (s : List UInt8) : Int := if 65536 < s.length then 3 else if Lib.validD s = false then 4 else match (readL s).1 with | none => 10 | some T => if mayB T then 0 else 10
def rdT (s : List UInt8) : Option Tm := if rdE s = 0 then (readL s).1 else none
def rdN (s : List UInt8) : Nat := if rdE s = 0 then s.length - (readL s).2.length else 0
abbrev zV : Value := .agg #[.int .i64 0, .bool false, .slice none 0 0, .string ⟨#[]⟩, .int .i64 0, .slice none 0 0, .slice none 0 0]
def TmO (S : Nat) (w : World) (o : Option Tm) (v : Value) : Prop :=
 match o with
 | none => v = zV
 | some T => TV (ZnS S w) w T v
theorem tv_drew {S : Nat} {w : World} {T : Tm} {v : Value} (h : TV (ZnS S w) w T v) : TV (ZnS S w.drew) w.drew T v := by
 have k := TV.zs (Z := ZnS S w) (w := w) (w' := w.drew) (fun _ _ => rfl) T v h
 exact TV.mono (fun _ _ h => h) _ _ k
set_option maxHeartbeats 4000000 in
theorem Read_w (s : List UInt8) (w : World) (hT : TabX w) (hs : s.length ≤ 9000000000000000) :
   Calls Tryz.prog 5 #[.string (bs s)] w fun e w' => ∃ v, e = .returned (.tuple #[v, .int .i64 (rdN s : Int), .int .i64 (rdE s)]) ∧ TmO w.heap.size w' (rdT s) v ∧ Below w.heap.size w w' := by
 obtain ⟨W1, hW1⟩ : ∃ W1, W1 = w.alloc (.cells #[.int .i64 0, .bool false, .slice none 0 0, .string ⟨#[]⟩, .int .i64 0, .slice none 0 0, .slice none 0 0] 27) := ⟨_, rfl⟩
 have bW : Below w.heap.size w W1 := by rw [hW1]; exact (Below.refl _ w).alloc (Nat.le_refl _) _
 have hrb : W1.heap[w.heap.size]? = some (.cells #[.int .i64 0, .bool false, .slice none 0 0, .string ⟨#[]⟩, .int .i64 0, .slice none 0 0, .slice none 0 0] 27 (0, 0)) := by rw [hW1]; exact heap_alloc_new w _
 have hWs : W1.heap.size = w.heap.size + 1 := by rw [hW1]; simp
 have hW1H := hid hW1
 have hrbH := hid hrb
 have hbWH := hid bW
 obtain ⟨S, hS⟩ : ∃ S, bs s = S := ⟨_, rfl⟩
 have hSs : S.size = s.length := by rw [← hS]; exact bs_size s
 have hSl : S.data.toList = s := by rw [← hS]; exact bs_list s
 rw [hS]
 have hSH := hid hS
 obtain ⟨E, hE⟩ : ∃ E, rdE s = E := ⟨_, rfl⟩
 obtain ⟨N, hN⟩ : ∃ N, rdN s = N := ⟨_, rfl⟩
 obtain ⟨O, hO⟩ : ∃ O, rdT s = O := ⟨_, rfl⟩
 rw [hE, hN, hO]
 have hEH := hid hE
 have hNH := hid hN
 have hOH := hid hO
 unfold rdN at hNH
 unfold rdT at hOH
 rw [hE] at hNH hOH
 unfold rdE at hEH
 clear hS hE hN hO
 by_cases h1 : 65536 < s.length
 · have hgt : (65536 : Int) < (S.size : Int) := by omega
   have hE3 : E = 3 := by rw [← hEH.out, if_pos h1]
   subst hE3
   have hN0 : N = 0 := by rw [← hNH.out]; rfl
   have hO0 : O = none := by rw [← hOH.out]; rfl
   subst hN0 hO0
   obtain ⟨e0, e1, e2, e3, e4, e5, e6⟩ := cell7 hrb
   have efr : ∀ j, W1.frozen? ⟨w.heap.size, j, none⟩ = false := (res7 hrb).fr
   have hp7 := heap_put7 hrb (.int .i64 0) (.bool false) nilS (.string noS) (.int .i64 0) nilS nilS
   have hon := only_put W1 w.heap.size (.int .i64 0) (.bool false) nilS (.string noS) (.int .i64 0) nilS nilS
   obtain ⟨q0, q1, q2, q3, q4, q5, q6⟩ := cell7 hp7
   have hbF := hid (bW.trans (hon.below (B := w.heap.size) (Nat.le_refl _)))
   clear hp7 hon
   clear hEH hNH hOH hT hrb bW hWs hW1 hSs hSl hSH hs h1
   go_enter Tryz.func5, Tryz.ntmps5
   go_upto_region 1 with fail
   rw [← hW1H.out]
   go_wp2
   exact bodyPost_ret (v := .tuple #[zV, .int .i64 0, .int .i64 3]) (by simp [results, Tryz.results5, go_sem, q0, q1, q2, q3, q4, q5, q6]) rfl ⟨_, rfl, rfl, hbF.out⟩
 · have hgt : ¬ (65536 : Int) < (S.size : Int) := by omega
   rw [if_neg h1] at hEH
   have cv := valid_w S W1 (by omega) (hT.below bW).1.1
   rw [hSl] at cv
   have hTH := hid hT
   have hsl : s.length ≤ 65536 := by omega
   obtain ⟨V, hV⟩ : ∃ V, Lib.validD s = V := ⟨_, rfl⟩
   rw [hV] at cv hEH
   cases V with
   | false =>
     have hE4 : E = 4 := by rw [← hEH.out, if_pos rfl]
     subst hE4
     have hN0 : N = 0 := by rw [← hNH.out]; rfl
     have hO0 : O = none := by rw [← hOH.out]; rfl
     subst hN0 hO0
     clear hEH hNH hOH hT hrb bW hWs hW1 hSs hSl hSH hs h1 hV hTH
     go_enter Tryz.func5, Tryz.ntmps5
     go_upto_region 1 with fail
     rw [← hW1H.out]
     go_wp2_with fail
     refine cv.mono ?_
     rintro e w2 ⟨rfl, b2⟩
     have hrb2 := (b2.block _ (zge.1 hrbH.out).1).trans hrbH.out
     have bW2 := hbWH.out.trans (below_le b2 hbWH.out.size)
     obtain ⟨e0, e1, e2, e3, e4, e5, e6⟩ := cell7 hrb2
     have efr : ∀ j, w2.frozen? ⟨w.heap.size, j, none⟩ = false := (res7 hrb2).fr
     have hp7 := heap_put7 hrb2 (.int .i64 0) (.bool false) nilS (.string noS) (.int .i64 0) nilS nilS
     have hon := only_put w2 w.heap.size (.int .i64 0) (.bool false) nilS (.string noS) (.int .i64 0) nilS nilS
     obtain ⟨q0, q1, q2, q3, q4, q5, q6⟩ := cell7 hp7
     have hbF := hid (bW2.trans (hon.below (B := w.heap.size) (Nat.le_refl _)))
     clear hp7 hon
     clear cv b2 hrb2 bW2
     go_wp2
     exact bodyPost_ret (v := .tuple #[zV, .int .i64 0, .int .i64 4]) (by simp [results, Tryz.results5, go_sem, q0, q1, q2, q3, q4, q5, q6]) rfl ⟨_, rfl, rfl, hbF.out⟩
   | true =>
     rw [if_neg (by simp)] at hEH
     have hgd := fun T (h : (readL s).1 = some T) => readL_gd (r := s) (by omega) h
     have hrl := readL_le s
     have hrd := fun w2 (hR : Rdr w2.heap.size s (.slice none 0 0) (w2.alloc (.cells #[.string S, .slice none 0 0] 45))) (hb : Below w.heap.size w w2) => read_w w2.heap.size s (w2.alloc (.cells #[.string S, .slice none 0 0] 45)) w hsl hR hV hT.1 hb.size (hb.alloc hb.size _)
     obtain ⟨RO, hRO⟩ : ∃ RO, (readL s).1 = RO := ⟨_, rfl⟩
     obtain ⟨RR, hRR⟩ : ∃ RR, (readL s).2 = RR := ⟨_, rfl⟩
     rw [hRO, hRR] at hrd
     rw [hRO] at hgd hEH hOH
     rw [hRR] at hrl hNH
     have hgdH := hid hgd
     have hrdH := hid hrd
     have hrlH := hid hrl
     have hSsH := hid hSs
     clear hgd hrd hrl hRO hRR hT hrb bW hWs hW1 hSl hs h1 hV hSs
     go_enter Tryz.func5, Tryz.ntmps5
     go_upto_region 1 with fail
     rw [← hW1H.out]
     go_wp2_with fail
     refine cv.mono ?_
     rintro e w2 ⟨rfl, b2⟩
     have hrb2' := hid ((b2.block _ (zge.1 hrbH.out).1).trans hrbH.out)
     have bW2 := hid (hbWH.out.trans (below_le b2 hbWH.out.size))
     have hRn : Rdr w2.heap.size s (.slice none 0 0) (w2.alloc (.cells #[.string S, .slice none 0 0] 45)) := ⟨by rw [← hSH.out] ; exact heap_alloc_new w2 _⟩
     have cr := hrdH.out w2 hRn bW2.out
     clear cv b2 hRn hrdH
     go_wp2_with fail
     refine cr.mono ?_
     rintro e w3 ⟨v, rfl, hA, ⟨ov, hR⟩, hK⟩
     have hb3 : Hid (Below w.heap.size w w3) := hid ((bW2.out.alloc bW2.out.size _).trans (hK.below (by have := bW2.out.size; simp; omega) (fun k hk => by rw [hk]; exact bW2.out.size)))
     have hrb3 : Hid (w3.heap[w.heap.size]? = some (.cells #[.int .i64 0, .bool false, .slice none 0 0, .string ⟨#[]⟩, .int .i64 0, .slice none 0 0, .slice none 0 0] 27 (0, 0))) := hid (by
       have hl := (zge.1 hrb2'.out).1
       exact (hK.block _ (by simp; omega) (fun e => by omega)).trans ((((Below.refl w2.heap.size w2).alloc (Nat.le_refl _) _).block _ hl).trans hrb2'.out))
     clear cr hK
     cases RO with
     | none =>
       subst hA
       have hE4 : E = 10 := by rw [← hEH.out]
       subst hE4
       have hN0 : N = 0 := by rw [← hNH.out]; rfl
       have hO0 : O = none := by rw [← hOH.out]; rfl
       subst hN0 hO0
       clear hEH hNH hOH hgdH hrlH hSsH hTH hR hrbH hrb2' hW1H bW2 hbWH
       go_upto_region 8 with fail
       generalize hWA : World.alloc w3 _ = WA
       have bA : Below w3.heap.size w3 WA := by rw [← hWA]; exact (Below.refl _ w3).alloc (Nat.le_refl _) _
       have hrb2 := (bA.block _ (zge.1 hrb3.out).1).trans hrb3.out
       have bW2 := hb3.out.trans (below_le bA hb3.out.size)
       obtain ⟨e0, e1, e2, e3, e4, e5, e6⟩ := cell7 hrb2
       have efr : ∀ j, WA.frozen? ⟨w.heap.size, j, none⟩ = false := (res7 hrb2).fr
       have hp7 := heap_put7 hrb2 (.int .i64 0) (.bool false) nilS (.string noS) (.int .i64 0) nilS nilS
       have hon := only_put WA w.heap.size (.int .i64 0) (.bool false) nilS (.string noS) (.int .i64 0) nilS nilS
       obtain ⟨q0, q1, q2, q3, q4, q5, q6⟩ := cell7 hp7
       have hbF := hid (bW2.trans (hon.below (B := w.heap.size) (Nat.le_refl _)))
       clear hp7 hon
       clear bA hrb2 bW2 hWA
       go_wp2
       exact bodyPost_ret (v := .tuple #[zV, .int .i64 0, .int .i64 10]) (by simp [results, Tryz.results5, go_sem, q0, q1, q2, q3, q4, q5, q6]) rfl ⟨_, rfl, rfl, hbF.out⟩
     | some T =>
       obtain ⟨x, rfl, hTV⟩ := hA
       obtain ⟨hg, hD⟩ := hgdH.out T rfl
       obtain ⟨k, neg, od, ld, cd, nm, n, ol, ll, cl, ob, lb, cb, rfl⟩ := hTV.form
       obtain ⟨WA, hWA⟩ : ∃ WA, WA = w3.alloc (.cells #[.int .i64 k, .bool neg, .slice od ld cd, .string nm, .int .i64 n, .slice ol ll cl, .slice ob lb cb] 27) := ⟨_, rfl⟩
       have bA : Below w3.heap.size w3 WA := by rw [hWA]; exact (Below.refl _ w3).alloc (Nat.le_refl _) _
       have hxA : WA.heap[w3.heap.size]? = some (.cells #[.int .i64 k, .bool neg, .slice od ld cd, .string nm, .int .i64 n, .slice ol ll cl, .slice ob lb cb] 27 (0, 0)) := by rw [hWA]; exact heap_alloc_new w3 _
       obtain ⟨x0, x1, x2, x3, x4, x5, x6⟩ := cell7 hxA
       have hTV0 := hTV
       replace hTV : TV (Low w3) w3 T _ := TV.mono (fun q _ hq => hq.2) _ _ hTV
       have hTA := tv_below hTV bA
       have hTZ : Hid (TV (fun q => w.heap.size < q ∧ q < WA.heap.size) WA T (tmV k neg (.slice od ld cd) nm n (.slice ol ll cl) (.slice ob lb cb))) := hid (by
         refine TV.mono (fun q _ hq => ⟨?_, Nat.lt_of_lt_of_le hq.2 bA.size⟩) _ _ (TV.zs (fun q hq => bA.block q hq.2) _ _ hTV0)
         have h1 := hq.1
         have h2 := (zge.1 hrb2'.out).1
         have h3 : (w2.alloc (.cells #[.string S, .slice none 0 0] 45)).heap.size = w2.heap.size + 1 := by simp
         omega)
       have bwA := hb3.out.trans (below_le bA hb3.out.size)
       have cm := May_w T _ WA hD hg hTA (hTH.out.below bwA).1.1
       obtain ⟨mb, hmb⟩ : ∃ mb, mayB T = mb := ⟨_, rfl⟩
       have hEb := hEH.out
       simp only at hEb
       rw [hmb] at cm hEb
       have hWAH := hid hWA
       have hxAH := hid hxA
       have hTAH := hid hTA
       have hEbH := hid hEb
       have bwAH := hid bwA
       have bAH := hid bA
       clear hTV0 hmb hEb hEH hTV hg hD hgdH hWA hxA hTA bwA bA
       go_upto_region 7 with fail
       rw [← hWAH.out]
       clear hWAH
       go_wp2_with fail
       refine cm.mono ?_
       rintro e w4 ⟨rfl, b4⟩
       have hrb2 := (b4.block _ (Nat.lt_of_lt_of_le (zge.1 hrb3.out).1 bAH.out.size)).trans ((bAH.out.block _ (zge.1 hrb3.out).1).trans hrb3.out)
       have bW2' := bwAH.out.trans (below_le b4 bwAH.out.size)
       have hx4 := (b4.block _ (zge.1 hxAH.out).1).trans hxAH.out
       have hT4 := hid (tv_below hTAH.out b4)
       have hR4 := (hR.below bAH.out).below b4
       clear cm x0 x1 x2 x3 x4 x5 x6
       cases mb with
       | false =>
         have hE4 : E = 10 := by rw [← hEbH.out]; rfl
         subst hE4
         have hN0 : N = 0 := by rw [← hNH.out]; rfl
         have hO0 : O = none := by rw [← hOH.out]; rfl
         subst hN0 hO0
         have bW2 := bW2'
         obtain ⟨e0, e1, e2, e3, e4, e5, e6⟩ := cell7 hrb2
         have efr : ∀ j, w4.frozen? ⟨w.heap.size, j, none⟩ = false := (res7 hrb2).fr
         have hp7 := heap_put7 hrb2 (.int .i64 0) (.bool false) nilS (.string noS) (.int .i64 0) nilS nilS
         have hon := only_put w4 w.heap.size (.int .i64 0) (.bool false) nilS (.string noS) (.int .i64 0) nilS nilS
         obtain ⟨q0, q1, q2, q3, q4, q5, q6⟩ := cell7 hp7
         have hbF := hid (bW2.trans (hon.below (B := w.heap.size) (Nat.le_refl _)))
         clear hp7 hon
         clear hrb2 bW2 bW2' hx4 hT4 hR4 hR b4
         go_wp2
         exact bodyPost_ret (v := .tuple #[zV, .int .i64 0, .int .i64 10]) (by simp [results, Tryz.results5, go_sem, q0, q1, q2, q3, q4, q5, q6]) rfl ⟨_, rfl, rfl, hbF.out⟩
       | true =>
         have hE4 : E = 0 := by rw [← hEbH.out]; rfl
         subst hE4
         have hNz : ((S.size : Nat) : Int) - ((bs RR).size : Int) = (N : Int) := by
           have h1 := hNH.out
           rw [if_pos rfl] at h1
           have h2 := hrlH.out
           have h3 := hSsH.out
           rw [bs_size]
           omega
         have hO0 : O = some T := by rw [← hOH.out]; rfl
         subst hO0
         obtain ⟨x0, x1, x2, x3, x4, x5, x6⟩ := cell7 hx4
         obtain ⟨y0, y1, f0, f1⟩ := hR4.cells
         obtain ⟨RS, hRS⟩ : ∃ RS, bs RR = RS := ⟨_, rfl⟩
         rw [hRS] at y0 hNz
         have hNzH := hid hNz
         have hsz1 : (RS.size : Int) ≤ (S.size : Int) := by omega
         have hsz2 : (S.size : Int) ≤ 65536 := by have := hSsH.out; omega
         obtain ⟨e0, e1, e2, e3, e4, e5, e6⟩ := cell7 hrb2
         have efr : ∀ j, w4.frozen? ⟨w.heap.size, j, none⟩ = false := (res7 hrb2).fr
         have hp7 := heap_put7 hrb2 (.int .i64 k) (.bool neg) (.slice od ld cd) (.string nm) (.int .i64 n) (.slice ol ll cl) (.slice ob lb cb)
         have hon := only_put w4 w.heap.size (.int .i64 k) (.bool neg) (.slice od ld cd) (.string nm) (.int .i64 n) (.slice ol ll cl) (.slice ob lb cb)
         have hTF : Hid (TV (ZnS w.heap.size (((((((w4.setCell ⟨w.heap.size, 0, none⟩ (.int .i64 k)).setCell ⟨w.heap.size, 1, none⟩ (.bool neg)).setCell ⟨w.heap.size, 2, none⟩ (.slice od ld cd)).setCell ⟨w.heap.size, 3, none⟩ (.string nm)).setCell ⟨w.heap.size, 4, none⟩ (.int .i64 n)).setCell ⟨w.heap.size, 5, none⟩ (.slice ol ll cl)).setCell ⟨w.heap.size, 6, none⟩ (.slice ob lb cb)).drew) (((((((w4.setCell ⟨w.heap.size, 0, none⟩ (.int .i64 k)).setCell ⟨w.heap.size, 1, none⟩ (.bool neg)).setCell ⟨w.heap.size, 2, none⟩ (.slice od ld cd)).setCell ⟨w.heap.size, 3, none⟩ (.string nm)).setCell ⟨w.heap.size, 4, none⟩ (.int .i64 n)).setCell ⟨w.heap.size, 5, none⟩ (.slice ol ll cl)).setCell ⟨w.heap.size, 6, none⟩ (.slice ob lb cb)).drew T (tmV k neg (.slice od ld cd) nm n (.slice ol ll cl) (.slice ob lb cb))) := hid (tv_drew (tv_only (TV.zs (fun q hq => b4.block q hq.2) _ _ hTZ.out) (fun q hq => ⟨Nat.lt_of_lt_of_le hq.2 b4.size, by omega, Nat.le_of_lt hq.1⟩) hon))
         have hBF := hid ((bW2'.trans (hon.below (B := w.heap.size) (Nat.le_refl _))).drew)
         obtain ⟨q0, q1, q2, q3, q4, q5, q6⟩ := cell7 hp7
         have hne1 : w2.heap.size ≠ w.heap.size := by have := (zge.1 hrbH.out).1; have := (zge.1 hrb2'.out).1; omega
         have hne2 := hne1.symm
         clear hRS hNz hp7 hon hR4 hx4 hrb2 b4 bW2' hR
         go_wp2
         go_region
         go_wp2
         exact bodyPost_ret (v := .tuple #[tmV k neg (.slice od ld cd) nm n (.slice ol ll cl) (.slice ob lb cb), .int .i64 (N : Int), .int .i64 0]) (by simp [results, Tryz.results5, go_sem, q0, q1, q2, q3, q4, q5, q6, hNzH.out]) rfl ⟨_, rfl, hTF.out, hBF.out⟩
def paE (s : List UInt8) : Int := if rdE s = 0 then (if rdN s < s.length then 10 else 0) else rdE s
def paT (s : List UInt8) : Option Tm := if paE s = 0 then rdT s else none
theorem tmo_form {S : Nat} {w : World} {o : Option Tm} {v : Value} (h : TmO S w o v) : ∃ k neg od ld cd nm n ol ll cl ob lb cb, v = tmV k neg (.slice od ld cd) nm n (.slice ol ll cl) (.slice ob lb cb) := by
 cases o with
 | none => exact ⟨0, false, none, 0, 0, ⟨#[]⟩, 0, none, 0, 0, none, 0, 0, h⟩
 | some T => exact TV.form h
theorem tmo_bel {S S' : Nat} {w w' : World} {o : Option Tm} {v : Value} (h : TmO S w o v) (hb : Below w.heap.size w w') (hS : S' ≤ S) : TmO S' w' o v := by
 cases o with
 | none => exact h
 | some T => exact TV.mono (fun q _ hq => ⟨Nat.le_trans hS hq.1, Nat.lt_of_lt_of_le hq.2 hb.size⟩) _ _ (TV.zs (fun q hq => hb.block q hq.2) _ _ h)
theorem tmo_only {S S' g : Nat} {w w' : World} {o : Option Tm} {v : Value} (h : TmO S w o v) (ho : Only g w w') (hg : g < S) (hS : S' ≤ S) : TmO S' w' o v := by
 cases o with
 | none => exact h
 | some T => exact TV.mono (fun q _ hq => ⟨Nat.le_trans hS hq.1, by show q < w'.heap.size; rw [ho.2.1]; exact hq.2⟩) _ _ (TV.zs (fun q hq => ho.2.2 q (by have := hq.1; omega)) _ _ h)
set_option maxHeartbeats 4000000 in
theorem Parse_w (s : List UInt8) (w : World) (hT : TabX w) (hs : s.length ≤ 9000000000000000) :
   Calls Tryz.prog 7 #[.string (bs s)] w fun e w' => ∃ v, e = .returned (.tuple #[v, .int .i64 (paE s)]) ∧ TmO w.heap.size w' (paT s) v ∧ Below w.heap.size w w' := by
 obtain ⟨W1, hW1⟩ : ∃ W1, W1 = w.alloc (.cells #[.int .i64 0, .bool false, .slice none 0 0, .string ⟨#[]⟩, .int .i64 0, .slice none 0 0, .slice none 0 0] 27) := ⟨_, rfl⟩
 have bW : Below w.heap.size w W1 := by rw [hW1]; exact (Below.refl _ w).alloc (Nat.le_refl _) _
 have hrb : W1.heap[w.heap.size]? = some (.cells #[.int .i64 0, .bool false, .slice none 0 0, .string ⟨#[]⟩, .int .i64 0, .slice none 0 0, .slice none 0 0] 27 (0, 0)) := by rw [hW1]; exact heap_alloc_new w _
 have hWs : W1.heap.size = w.heap.size + 1 := by rw [hW1]; simp
 have cr := Read_w s W1 (hT.below bW) hs
 have hW1H := hid hW1
 have hrbH := hid hrb
 have hbWH := hid bW
 have hWsH := hid hWs
 obtain ⟨S, hS⟩ : ∃ S, bs s = S := ⟨_, rfl⟩
 have hSs : S.size = s.length := by rw [← hS]; exact bs_size s
 rw [hS] at cr
 rw [hS]
 obtain ⟨E, hE⟩ : ∃ E, rdE s = E := ⟨_, rfl⟩
 obtain ⟨N, hN⟩ : ∃ N, rdN s = N := ⟨_, rfl⟩
 obtain ⟨O, hO⟩ : ∃ O, rdT s = O := ⟨_, rfl⟩
 obtain ⟨E', hE'⟩ : ∃ E', paE s = E' := ⟨_, rfl⟩
 obtain ⟨O', hO'⟩ : ∃ O', paT s = O' := ⟨_, rfl⟩
 have hE2 := hE'
 have hO2 := hO'
 unfold paE at hE2
 unfold paT at hO2
 rw [hE, hN] at hE2
 rw [hE', hO] at hO2
 rw [hE', hO']
 rw [hE, hN, hO] at cr
 have hE2H := hid hE2
 have hO2H := hid hO2
 have hSsH := hid hSs
 clear hE hN hO hE' hO' hS hrb bW hWs hW1 hT hE2 hO2 hSs
 go_enter Tryz.func7, Tryz.ntmps7
 go_upto_region 1 with fail
 rw [← hW1H.out]
 go_wp2_with fail
 refine cr.mono ?_
 rintro e w2 ⟨v2, rfl, hV, b2⟩
 have hVH := hid hV
 obtain ⟨k, neg, od, ld, cd, nm, n, ol, ll, cl, ob, lb, cb, rfl⟩ := tmo_form hV
 obtain ⟨W5, hW5⟩ : ∃ W5, W5 = w2.alloc (.cells #[.int .i64 k, .bool neg, .slice od ld cd, .string nm, .int .i64 n, .slice ol ll cl, .slice ob lb cb] 27) := ⟨_, rfl⟩
 have bA : Below w2.heap.size w2 W5 := by rw [hW5]; exact (Below.refl _ w2).alloc (Nat.le_refl _) _
 have b5 : Below W1.heap.size W1 W5 := b2.trans (below_le bA b2.size)
 have hxA : W5.heap[w2.heap.size]? = some (.cells #[.int .i64 k, .bool neg, .slice od ld cd, .string nm, .int .i64 n, .slice ol ll cl, .slice ob lb cb] 27 (0, 0)) := by rw [hW5]; exact heap_alloc_new w2 _
 obtain ⟨x0, x1, x2, x3, x4, x5, x6⟩ := cell7 hxA
 have hW5H := hid hW5
 have hbAH := hid bA
 clear hV cr hW5 hxA bA b2 hW1H
 have hE2 := hE2H.out
 have hO2 := hO2H.out
 have hSs := hSsH.out
 by_cases h0 : E = 0
 · subst h0
   rw [if_pos rfl] at hE2
   by_cases h1 : N < s.length
   · rw [if_pos h1] at hE2
     subst hE2
     have hO0 : O' = none := by rw [← hO2]; rfl
     subst hO0
     have hz : (N : Int) < (S.size : Int) := by omega
     have hrb5 := (b5.block _ (zge.1 hrbH.out).1).trans hrbH.out
     have bW5 := hbWH.out.trans (below_le b5 hbWH.out.size)
     obtain ⟨e0, e1, e2, e3, e4, e5, e6⟩ := cell7 hrb5
     have efr : ∀ j, W5.frozen? ⟨w.heap.size, j, none⟩ = false := (res7 hrb5).fr
     have hp7 := heap_put7 hrb5 (.int .i64 0) (.bool false) nilS (.string noS) (.int .i64 0) nilS nilS
     have hon := only_put W5 w.heap.size (.int .i64 0) (.bool false) nilS (.string noS) (.int .i64 0) nilS nilS
     obtain ⟨q0, q1, q2, q3, q4, q5, q6⟩ := cell7 hp7
     have hbF := hid (bW5.trans (hon.below (B := w.heap.size) (Nat.le_refl _)))
     clear hO2H hE2H hO2 h1 hSs hVH hp7 hon hrb5 bW5 hbAH b5
     go_upto_region 2 with fail
     rw [← hW5H.out]
     go_wp2
     exact bodyPost_ret (v := .tuple #[zV, .int .i64 10]) (by simp [results, Tryz.results7, go_sem, q0, q1, q2, q3, q4, q5, q6]) rfl ⟨_, rfl, rfl, hbF.out⟩
   · rw [if_neg h1] at hE2
     subst hE2
     rw [if_pos rfl] at hO2
     subst hO2
     have hz0 : ¬ (N : Int) < (S.size : Int) := by omega
     have hz : ((N : Int) < (S.size : Int)) = False := by simp only [hz0]
     clear hz0
     have hrb5 := (b5.block _ (zge.1 hrbH.out).1).trans hrbH.out
     have bW5 := hbWH.out.trans (below_le b5 hbWH.out.size)
     obtain ⟨e0, e1, e2, e3, e4, e5, e6⟩ := cell7 hrb5
     have efr : ∀ j, W5.frozen? ⟨w.heap.size, j, none⟩ = false := (res7 hrb5).fr
     have hp7 := heap_put7 hrb5 (.int .i64 k) (.bool neg) (.slice od ld cd) (.string nm) (.int .i64 n) (.slice ol ll cl) (.slice ob lb cb)
     have hon := only_put W5 w.heap.size (.int .i64 k) (.bool neg) (.slice od ld cd) (.string nm) (.int .i64 n) (.slice ol ll cl) (.slice ob lb cb)
     obtain ⟨q0, q1, q2, q3, q4, q5, q6⟩ := cell7 hp7
     have hbF := hid (bW5.trans (hon.below (B := w.heap.size) (Nat.le_refl _)))
     have hTF : Hid (TmO w.heap.size (((((((W5.setCell ⟨w.heap.size, 0, none⟩ (.int .i64 k)).setCell ⟨w.heap.size, 1, none⟩ (.bool neg)).setCell ⟨w.heap.size, 2, none⟩ (.slice od ld cd)).setCell ⟨w.heap.size, 3, none⟩ (.string nm)).setCell ⟨w.heap.size, 4, none⟩ (.int .i64 n)).setCell ⟨w.heap.size, 5, none⟩ (.slice ol ll cl)).setCell ⟨w.heap.size, 6, none⟩ (.slice ob lb cb)) O (tmV k neg (.slice od ld cd) nm n (.slice ol ll cl) (.slice ob lb cb))) := hid (tmo_only (g := w.heap.size) (tmo_bel hVH.out hbAH.out (Nat.le_refl _)) hon (by have := hWsH.out; omega) (by have := hWsH.out; omega))
     clear hO2H hE2H h1 hSs hVH hp7 hon hrb5 bW5 hbAH b5
     go_upto_region 2 with fail
     rw [← hW5H.out]
     go_wp2
     exact bodyPost_ret (v := .tuple #[tmV k neg (.slice od ld cd) nm n (.slice ol ll cl) (.slice ob lb cb), .int .i64 0]) (by simp [results, Tryz.results7, go_sem, q0, q1, q2, q3, q4, q5, q6]) rfl ⟨_, rfl, hTF.out, hbF.out⟩
 · have h0b : (E != 0) = true := by simp [h0]
   rw [if_neg h0] at hE2
   subst hE2
   have hO0 : O' = none := by rw [← hO2, if_neg h0]
   subst hO0
   have hrb5 := (b5.block _ (zge.1 hrbH.out).1).trans hrbH.out
   have bW5 := hbWH.out.trans (below_le b5 hbWH.out.size)
   obtain ⟨e0, e1, e2, e3, e4, e5, e6⟩ := cell7 hrb5
   have efr : ∀ j, W5.frozen? ⟨w.heap.size, j, none⟩ = false := (res7 hrb5).fr
   have hp7 := heap_put7 hrb5 (.int .i64 0) (.bool false) nilS (.string noS) (.int .i64 0) nilS nilS
   have hon := only_put W5 w.heap.size (.int .i64 0) (.bool false) nilS (.string noS) (.int .i64 0) nilS nilS
   obtain ⟨q0, q1, q2, q3, q4, q5, q6⟩ := cell7 hp7
   have hbF := hid (bW5.trans (hon.below (B := w.heap.size) (Nat.le_refl _)))
   clear hO2H hE2H hO2 hSs hVH hp7 hon hrb5 bW5 hbAH b5 h0
   go_upto_region 2 with fail
   rw [← hW5H.out]
   go_wp2
   exact bodyPost_ret (v := .tuple #[zV, .int .i64 E]) (by simp [results, Tryz.results7, go_sem, q0, q1, q2, q3, q4, q5, q6]) rfl ⟨_, rfl, rfl, hbF.out⟩
open Go.ChangeMaps
set_option maxHeartbeats 8000000 in
set_option maxRecDepth 8000 in
theorem rTuple_w (ls : List Tm) (o : Option Addr) (c : Nat) (w : World) (hl : ls.length ≤ 1000000) (hok : ∀ p ∈ partsL ls, p.ok1 ∧ fairB p = true) (hT : TR (Low w) w ls o) :
   Calls Tryz.prog 11 #[.slice o ls.length c] w fun e w' => ∃ v', e = .returned v' ∧ TV (Zb w.heap.size w') w' (tupT ls) v' ∧ Below w.heap.size w w' := by
 have htR := hid hT
 have hok2 := hid hok
 clear hT hok
 obtain ⟨kB, kG, hB0, hz0⟩ := bx2 w (.int .i64 0) (.bool false) nilS (.string noS) (.int .i64 0) nilS nilS (.int .i64 4) (.bool false) nilS (.string noS) (.int .i64 0) nilS nilS 27 27
 have hR00 : ((w.alloc (.cells zC 27)).alloc (.cells #[.int .i64 4, .bool false, nilS, .string noS, .int .i64 0, nilS, nilS] 27)).heap[w.heap.size]? = some (.cells zC 27 (0, 0)) := (((Below.refl _ _).alloc (Nat.le_refl _) _).block w.heap.size (by simp)).trans (heap_alloc_new w (.cells zC 27))
 have hG00 := heap_alloc_new (w.alloc (.cells zC 27)) (.cells #[.int .i64 4, .bool false, nilS, .string noS, .int .i64 0, nilS, nilS] 27)
 rw [World.size_alloc] at hG00
 obtain ⟨iT, hT1, hT2, hT3, hT4⟩ := info_parts infoT
 go_enter Tryz.func11, Tryz.ntmps11
 go_wp2_with fail
 generalize ((w.alloc (.cells #[.int .i64 0, .bool false, .slice none 0 0, .string { data := #[] }, .int .i64 0, .slice none 0 0, .slice none 0 0] 27)).alloc (.cells #[.int .i64 4, .bool false, .slice none 0 0, .string { data := #[] }, .int .i64 0, .slice none 0 0, .slice none 0 0] 27)) = W0 at *
 go_loopg [4] ls.length (fun t v4 wr => ∃ (i : Nat) (vL : Value) (xs : List Value), t + i = ls.length ∧ v4 = .int .i64 (i : Int) ∧ wr.heap[w.heap.size + 1]? = some (.cells #[.int .i64 4, .bool false, nilS, .string noS, .int .i64 0, vL, nilS] 27 (0, 0)) ∧ wr.heap[w.heap.size]? = some (.cells zC 27 (0, 0)) ∧ wr.ownsRow (w.heap.size + 2) 27 7 vL i xs ∧ RC (Zq (w.heap.size + 2) vL wr) wr (ls.take i) xs ∧ Below w.heap.size w wr ∧ w.heap.size + 2 ≤ wr.heap.size)
 case atStart => exact ⟨0, nilS, [], by omega, rfl, hG00, hR00, World.ownsRow_nil _ _ _ _, rfl, hB0, by omega⟩
 case round =>
   obtain ⟨i, vL, xs, hti, rfl, hgr, hRb, hOw, hRC, hbV, hsz⟩ := hrel
   clear hG00 hR00 hB0 kB kG hz0
   obtain ⟨oL, cL, rfl, hcL⟩ := own_sl hOw
   have kG2 := res7 hgr
   by_cases hil : i < ls.length
   · have hii : ((i : Nat) : Int) < ((ls.length : Nat) : Int) := by omega
     obtain ⟨t, ht⟩ : ∃ t, ls[i]? = some t := ⟨ls[i], by simp [hil]⟩
     obtain ⟨pa, pk, pneg, pod, pld, pcd, pnm, pn, pol, pll, pcl, pob, plb, pcb, hpa, hTp, y0, y1, y2, y3, y4, y5, y6⟩ := htR.out.get ht hbV
     subst hpa
     have hokt : ∀ p ∈ parts t, p.ok1 ∧ fairB p = true := fun p hp => hok2.out p (mem_partsL ht hp)
     have htk : Hid (ls.take (i + 1) = ls.take i ++ [t]) := hid (by rw [List.take_add_one, ht]; rfl)
     clear ht
     have dV5 : Below wr.heap.size wr wr.drew := (Below.refl _ wr).drew
     have hO3 : wr.drew.ownsRow (w.heap.size + 2) 27 7 (.slice oL i cL) i xs := own_blkS hOw (fun k hk => rfl)
     have hRC3 : RC (Zq (w.heap.size + 2) (.slice oL i cL) wr.drew) wr.drew (ls.take i) xs := RC.mono (fun k hk hz => hz) (RC.zs (Z := Zq (w.heap.size + 2) (.slice oL i cL) wr) (w := wr) (w' := wr.drew) (fun k hk => rfl) hRC)
     have hgr3 : wr.drew.heap[w.heap.size + 1]? = some (.cells #[.int .i64 4, .bool false, nilS, .string noS, .int .i64 0, .slice oL i cL, nilS] 27 (0, 0)) := hgr
     have hRb3 : wr.drew.heap[w.heap.size]? = some (.cells zC 27 (0, 0)) := hRb
     have hbV3 : Below w.heap.size w wr.drew := hbV.drew
     have hsz3 : w.heap.size + 2 ≤ wr.drew.heap.size := hsz
     have hTp3 := tv_below hTp dV5
     have hpl : pa.block < w.heap.size := by
       have h1 := htR.out
       cases ls with
       | nil => simp at hil
       | cons q qs =>
         unfold TR at h1
         obtain ⟨a, _, e, h2, _⟩ := h1
         injection e with e
         rw [e]; exact h2
     have hSk : Hid (∀ w' : World, (∀ k, k < w.heap.size → w'.heap[k]? = wr.drew.heap[k]?) → (w'.cell? (pa.add (i * 7)) = some (.int .i64 pk) ∧ w'.cell? ⟨(pa.add (i * 7)).block, (pa.add (i * 7)).off + 1, none⟩ = some (.bool pneg) ∧ w'.cell? ⟨(pa.add (i * 7)).block, (pa.add (i * 7)).off + 2, none⟩ = some (.slice pod pld pcd) ∧ w'.cell? ⟨(pa.add (i * 7)).block, (pa.add (i * 7)).off + 3, none⟩ = some (.string pnm) ∧ w'.cell? ⟨(pa.add (i * 7)).block, (pa.add (i * 7)).off + 4, none⟩ = some (.int .i64 pn) ∧ w'.cell? ⟨(pa.add (i * 7)).block, (pa.add (i * 7)).off + 5, none⟩ = some (.slice pol pll pcl) ∧ w'.cell? ⟨(pa.add (i * 7)).block, (pa.add (i * 7)).off + 6, none⟩ = some (.slice pob plb pcb))) := hid (fun w' hb => by
       have q : ∀ {a : Addr} {v : Value}, a.block = pa.block → wr.cell? a = some v → w'.cell? a = some v := fun e h => (World.cell?_of_block (hb _ (by rw [e]; omega))).trans h
       exact ⟨q (block_add _ _) y0, q (block_add _ _) y1, q (block_add _ _) y2, q (block_add _ _) y3, q (block_add _ _) y4, q (block_add _ _) y5, q (block_add _ _) y6⟩)
     have hS : Hid (∀ w', Below wr.drew.heap.size wr.drew w' → (w'.cell? (pa.add (i * 7)) = some (.int .i64 pk) ∧ w'.cell? ⟨(pa.add (i * 7)).block, (pa.add (i * 7)).off + 1, none⟩ = some (.bool pneg) ∧ w'.cell? ⟨(pa.add (i * 7)).block, (pa.add (i * 7)).off + 2, none⟩ = some (.slice pod pld pcd) ∧ w'.cell? ⟨(pa.add (i * 7)).block, (pa.add (i * 7)).off + 3, none⟩ = some (.string pnm) ∧ w'.cell? ⟨(pa.add (i * 7)).block, (pa.add (i * 7)).off + 4, none⟩ = some (.int .i64 pn) ∧ w'.cell? ⟨(pa.add (i * 7)).block, (pa.add (i * 7)).off + 5, none⟩ = some (.slice pol pll pcl) ∧ w'.cell? ⟨(pa.add (i * 7)).block, (pa.add (i * 7)).off + 6, none⟩ = some (.slice pob plb pcb))) := hid (fun w' hb => hSk.out w' (fun k hk => hb.block k (by omega)))
     clear hRC hOw hgr hRb hbV hsz hTp dV5 kG2 y0 y1 y2 y3 y4 y5 y6
     go_wp2_with fail
     refine wp_region_held_drew (S := fun w' => w'.cell? (pa.add (i * 7)) = some (.int .i64 pk) ∧ w'.cell? ⟨(pa.add (i * 7)).block, (pa.add (i * 7)).off + 1, none⟩ = some (.bool pneg) ∧ w'.cell? ⟨(pa.add (i * 7)).block, (pa.add (i * 7)).off + 2, none⟩ = some (.slice pod pld pcd) ∧ w'.cell? ⟨(pa.add (i * 7)).block, (pa.add (i * 7)).off + 3, none⟩ = some (.string pnm) ∧ w'.cell? ⟨(pa.add (i * 7)).block, (pa.add (i * 7)).off + 4, none⟩ = some (.int .i64 pn) ∧ w'.cell? ⟨(pa.add (i * 7)).block, (pa.add (i * 7)).off + 5, none⟩ = some (.slice pol pll pcl) ∧ w'.cell? ⟨(pa.add (i * 7)).block, (pa.add (i * 7)).off + 6, none⟩ = some (.slice pob plb pcb)) (by kernel_rfl) (by exact hS.out _ (Below.refl _ _)) (fun hHeld => ?_)
     generalize wr.drew = V5 at *
     refine wpAnyH_take (i := 0) (oi := _) (v := ?_) rfl (by kernel_rfl) (by kernel_rfl) (by kernel_rfl) (fun _ _ _ h => h) (Or.inl ⟨by rfl, ?_⟩) (by assumption) ?_
     rotate_left 1
     · (intro w hSw; (try dsimp only at hSw); go_simp; try with_reducible rfl)
     try simp (maxSteps := 10000000) only [zga, zgs, zgz, Act.put, zsa, zsz, zss]
     refine wpAnyH_take (i := 2) (oi := _) (v := ?_) rfl (by kernel_rfl) (by kernel_rfl) (by kernel_rfl) (fun _ _ _ h => h) (Or.inl ⟨by rfl, ?_⟩) (by assumption) ?_
     rotate_left 1
     · (intro w hSw; (try dsimp only at hSw); go_simp; try with_reducible rfl)
     try simp (maxSteps := 10000000) only [zga, zgs, zgz, Act.put, zsa, zsz, zss]
     refine wpAnyH_take (i := 3) (oi := _) (v := ?_) rfl (by kernel_rfl) (by kernel_rfl) (by kernel_rfl) (fun _ _ _ h => h) (Or.inl ⟨by rfl, ?_⟩) (by assumption) ?_
     rotate_left 1
     · (intro w hSw; (try dsimp only at hSw); go_simp; try with_reducible rfl)
     try simp (maxSteps := 10000000) only [zga, zgs, zgz, Act.put, zsa, zsz, zss]
     refine wpAnyH_take (i := 4) (oi := _) (v := ?_) rfl (by kernel_rfl) (by kernel_rfl) (by kernel_rfl) (fun _ _ _ h => h) (Or.inl ⟨by rfl, ?_⟩) (by assumption) ?_
     rotate_left 1
     · (intro w hSw; (try dsimp only at hSw); go_simp; try with_reducible rfl)
     try simp (maxSteps := 10000000) only [zga, zgs, zgz, Act.put, zsa, zsz, zss]
     refine wpAnyH_take (i := 5) (oi := _) (v := ?_) rfl (by kernel_rfl) (by kernel_rfl) (by kernel_rfl) (fun _ _ _ h => h) (Or.inl ⟨by rfl, ?_⟩) (by assumption) ?_
     rotate_left 1
     · (intro w hSw; (try dsimp only at hSw); go_simp; try with_reducible rfl)
     try simp (maxSteps := 10000000) only [zga, zgs, zgz, Act.put, zsa, zsz, zss]
     refine wpAnyH_at (m' := 6) (listed' := #[true, false, true, true, true, true, false, false, false, false, false]) (by kernel_rfl) (by kernel_rfl) ?_
     refine wpAnyH_name fun a0 ha0 => ?_
     refine wpAnyH_tt (A := fun s => ((a0.put (some 13) s.x1).put (some 18) s.x6).put (some 19) s.x7) (R := fun s w => Rap V5 (.slice oL i cL) t s.l1 s.l6 s.l7 s.x1 s.x6 s.x7 w) ?_ (fun s w h => h.ok) ?_ ?_ ?_ ?_ _ _ u13 u18 u19 ?_ ?_
     · kernel_rfl
     · intro s w' hR h0
       have hc : w'.cell? ⟨w.heap.size + 1, 5, none⟩ = some (.slice oL i cL) := (res7 (blk_on' hgr3 hR.bel)).c5
       refine wpOp_step rfl (fun K' hK => ?_)
       have hK' := shutO hK
       clear hK
       subst ha0
       simp only [Act.put, zsa, zsz, zss]
       go_simp
       refine hK'.out _ _ ⟨_, ?_, hR.c1, hS.out _ hR.bel⟩
       rfl
     · intro s w' hR h0
       refine wpOp_step rfl (fun K' hK => ?_)
       have hK' := shutO hK
       clear hK
       subst ha0
       simp only [Act.put, zsa, zsz, zss]
       go_simp
       refine (rCopy_w (tsz t) t _ _ (Nat.le_refl _) hokt (tv_below hTp3 hR.bel)).mono ?_
       rintro e w7 ⟨v7, rfl, hT7, b7⟩
       try go_simp
       refine hK'.out _ _ ⟨_, ?_, hR.c7 h0 hT7 b7, hS.out _ (hR.c7 h0 hT7 b7).bel⟩
       rfl
     · intro s w' hR h0 e7
       obtain ⟨l1, l7, l8, x1, x7, x8⟩ := s
       dsimp only at hR e7 h0
       obtain ⟨xk, xneg, xod, xld, xcd, xnm, xn, xol, xll, xcl, xob, xlb, xcb, hx7, _⟩ := hR.h7 e7
       subst hx7
       refine wpOp_step rfl (fun K' hK => ?_)
       have hK' := shutO hK
       clear hK
       subst ha0
       simp only [Act.put, zsa, zsz, zss]
       go_simp
       refine hK'.out _ _ ⟨_, ?_, hR.c8 e7, hS.out _ (hR.c8 e7).bel⟩
       rfl
     · intro x1 x7 x8 w5 hR
       have hx1 := hR.h1 rfl
       obtain ⟨gn, xk, xneg, xod, xld, xcd, xnm, xn, xol, xll, xcl, xob, xlb, xcb, hx7, hT5, hx8, hgn, kgn⟩ := hR.h8 rfl
       have hb5 := hR.bel
       clear hR
       dsimp only at hx1 hx7 hx8
       subst hx1
       subst hx7
       subst hx8
       subst ha0
       try simp only [Act.put, zsa, zsz, zss]
       have hO5 : w5.ownsRow (w.heap.size + 2) 27 7 (.slice oL i cL) i xs := own_blkS hO3 (fun k hk => hb5.block k (own_blk7 hO3 k hk).2)
       have hg5 := blk_on' hgr3 hb5
       have hcr : ∀ (j : Nat) (u : Value), ([.int .i64 xk, .bool xneg, .slice xod xld xcd, .string xnm, .int .i64 xn, .slice xol xll xcl, .slice xob xlb xcb] : List Value)[j]? = some u → w5.cell? ((⟨gn, 0, none⟩ : Addr).add j) = some u := by
         intro j u hj
         rw [addr_add, Nat.zero_add]
         simp only [World.cell?, kgn]
         simpa using hj
       have hone : ∀ u ∈ ([.int .i64 xk, .bool xneg, .slice xod xld xcd, .string xnm, .int .i64 xn, .slice xol xll xcl, .slice xob xlb xcb] : List Value), u.oneCell' = true := by
         intro u hu
         simp only [List.mem_cons, List.not_mem_nil, or_false] at hu
         rcases hu with rfl | rfl | rfl | rfl | rfl | rfl | rfl <;> rfl
       refine wpAnyH_ready (rs := [8]) (by kernel_rfl) (by simp) ?_
       refine AllReadyH.cons rfl (fun K hK => ?_) AllReadyH.nil
       refine step_append_lies _ rfl _ _ 24 rfl (w.heap.size + 2) 27 iT (.agg #[.int .i64 0, .bool false, .slice none 0 0, .string ⟨#[]⟩, .int .i64 0, .slice none 0 0, .slice none 0 0]) 7 112 Tryz.underlying24 hT1 hT2 hT3 hT4 rfl (by decide) (.slice oL i cL) i xs rfl hO5 ⟨gn, 0, none⟩ 1 1 [.int .i64 xk, .bool xneg, .slice xod xld xcd, .string xnm, .int .i64 xn, .slice xol xll xcl, .slice xob xlb xcb] rfl rfl hcr hone (by decide) (by unfold maxLen; omega) (by omega) (by have := hb5.size; omega) w5.heap.size rfl (fun g2 cap2 w2 hown hgrow hg2 hlt2 => ?_)
       have hgg : w2.heap[w.heap.size + 1]? = w5.heap[w.heap.size + 1]? := hgrow.block _ (by have := hb5.size; omega) (fun e => by have := (own_blk7 hO5 _ e.symm).1; omega)
       have hg5' := hgg.trans hg5
       obtain ⟨f0, f1, f2, f3, f4, f5, f6⟩ := (res7 hg5').res
       have ff := (res7 hg5').fr
       have q2 : ∀ k, k < V5.heap.size → Value.ownBlock (.slice oL i cL) ≠ some k → w2.heap[k]? = V5.heap[k]? := fun k hk hn => (hgrow.block k (by have := hb5.size; omega) (fun e => hn e.symm)).trans (hb5.block k hk)
       have qs2 := hSk.out w2 (fun k hk => q2 k (by omega) (fun e => by have := (own_blk7 hO5 k e).1; omega))
       refine hK.out _ _ ?_ (fun hHeld => ?_)
       · first | exact hS.out _ (by assumption) | exact qs3 | exact qs2
       clear hK K
       try simp (maxSteps := 10000000) only [zga, zgs, zgz, Act.put, zsa, zsz, zss]
       refine wpAnyH_take (i := 9) (oi := _) (v := ?_) rfl (by kernel_rfl) (by kernel_rfl) (by kernel_rfl) (fun _ _ _ h => h) (Or.inl ⟨by rfl, ?_⟩) (by assumption) ?_
       rotate_left 1
       · (intro w hSw; (try dsimp only at hSw); go_simp; try with_reducible rfl)
       try simp (maxSteps := 10000000) only [zga, zgs, zgz, Act.put, zsa, zsz, zss]
       refine wpAnyH_ready (rs := [10]) (by kernel_rfl) (by simp) ?_
       refine AllReadyH.cons rfl (fun K hK => ?_) AllReadyH.nil
       go_simp
       have on5 := only_set w2 (w.heap.size + 1) 5 (.slice (some ⟨g2, 0, none⟩) (i + 1) cap2)
       have hg6 : (w2.setCell ⟨w.heap.size + 1, 5, none⟩ (.slice (some ⟨g2, 0, none⟩) (i + 1) cap2)).heap[w.heap.size + 1]? = some (.cells #[.int .i64 4, .bool false, nilS, .string noS, .int .i64 0, .slice (some ⟨g2, 0, none⟩) (i + 1) cap2, nilS] 27 (0, 0)) := heap_setc hg5' _
       clear f0 f1 f2 f3 f4 f5 f6 ff
       generalize w2.setCell ⟨w.heap.size + 1, 5, none⟩ (.slice (some ⟨g2, 0, none⟩) (i + 1) cap2) = w3 at *
       have qs3 := hSk.out w3 (fun k hk => (on5.2.2 k (by omega)).trans (q2 k (by omega) (fun e => by have := (own_blk7 hO5 k e).1; omega)))
       try go_simp
       refine hK.out _ _ ?_ (fun hHeld => ?_)
       · first | exact hS.out _ (by assumption) | exact qs3 | exact qs2
       clear hK K
       try simp (maxSteps := 10000000) only [zga, zgs, zgz, Act.put, zsa, zsz, zss]
       refine wpAnyH_done (by kernel_rfl) ?_ _
       obtain ⟨hO6, hRC6⟩ := row_step hsz3 (by omega) hO3 hRC3 hb5 hT5 hgrow hg2 hown on5
       have hsz6 : w.heap.size + 2 ≤ w3.heap.size := by have := hb5.size; have := hgrow.size; have : w3.heap.size = w2.heap.size := on5.2.1; omega
       have hR6 : w3.heap[w.heap.size]? = some (.cells zC 27 (0, 0)) := (on5.2.2 _ (by omega)).trans ((q2 _ (by omega) (fun e => by have := (own_blk7 hO5 _ e).1; omega)).trans hRb3)
       have hb6 : Below w.heap.size w w3 := (((below_and' hbV3 hbV3.size hb5).trans (⟨hgrow.os, hgrow.tape, hgrow.output, hgrow.size, fun k hk => hgrow.block k (by have := hb5.size; have := hbV3.size; omega) (fun e => by have := (own_blk7 hO5 k e.symm).1; omega)⟩ : Below w.heap.size w5 w2)).trans (on5.below (B := w.heap.size) (by omega)))
       clear hO5 hg5 hcr hone hgrow hg2 hown hb5 hT5 q2 qs2 qs3 hgg hg5' kgn hSk hS on5 hlt2
       go_wp2
       go_roundg (ls.length - (i + 1))
       case measure => omega
       case rel => exact ⟨i + 1, _, _, by omega, by go_num, hg6, hR6, hO6, by rw [htk.out]; exact hRC6, hb6, hsz6⟩
     · subst ha0; rfl
     · exact ⟨Below.refl _ _, rfl, fun h => by simp at h, fun h => by simp at h, fun h => by simp at h⟩
   · have hi2 : i = ls.length := by omega
     subst hi2
     have hii : ¬ ((ls.length : Nat) : Int) < ((ls.length : Nat) : Int) := by omega
     have kB2 := res7 hRb
     obtain ⟨y0, y1, y2, y3, y4, y5, y6⟩ := kG2.res
     obtain ⟨z0, z1, z2, z3, z4, z5, z6⟩ := kB2.res
     have zf := kB2.fr
     have onR := only_put wr w.heap.size (.int .i64 4) (.bool false) nilS (.string noS) (.int .i64 0) (.slice oL ls.length cL) nilS
     obtain ⟨r0, r1, r2, r3, r4, r5, r6⟩ := (kB2.put (b0 := .int .i64 4) (b1 := .bool false) (b2 := nilS) (b3 := .string noS) (b4 := .int .i64 0) (b5 := .slice oL ls.length cL) (b6 := nilS)).res
     have hfin : TV (Zb w.heap.size (((((((wr.setCell ⟨w.heap.size, 0, none⟩ (.int .i64 4)).setCell ⟨w.heap.size, 1, none⟩ (.bool false)).setCell ⟨w.heap.size, 2, none⟩ nilS).setCell ⟨w.heap.size, 3, none⟩ (.string noS)).setCell ⟨w.heap.size, 4, none⟩ (.int .i64 0)).setCell ⟨w.heap.size, 5, none⟩ (.slice oL ls.length cL)).setCell ⟨w.heap.size, 6, none⟩ nilS)) (((((((wr.setCell ⟨w.heap.size, 0, none⟩ (.int .i64 4)).setCell ⟨w.heap.size, 1, none⟩ (.bool false)).setCell ⟨w.heap.size, 2, none⟩ nilS).setCell ⟨w.heap.size, 3, none⟩ (.string noS)).setCell ⟨w.heap.size, 4, none⟩ (.int .i64 0)).setCell ⟨w.heap.size, 5, none⟩ (.slice oL ls.length cL)).setCell ⟨w.heap.size, 6, none⟩ nilS) (tupT ls) (tmV 4 false nilS noS 0 (.slice oL ls.length cL) nilS) := by
       have hO2 := own_blkS hOw (fun k hk => onR.2.2 k (by have := (own_blk7 hOw k hk).1; omega))
       rw [List.take_length] at hRC
       have hR2 := RC.mono (Z' := Zb w.heap.size (((((((wr.setCell ⟨w.heap.size, 0, none⟩ (.int .i64 4)).setCell ⟨w.heap.size, 1, none⟩ (.bool false)).setCell ⟨w.heap.size, 2, none⟩ nilS).setCell ⟨w.heap.size, 3, none⟩ (.string noS)).setCell ⟨w.heap.size, 4, none⟩ (.int .i64 0)).setCell ⟨w.heap.size, 5, none⟩ (.slice oL ls.length cL)).setCell ⟨w.heap.size, 6, none⟩ nilS)) (fun k hk hz => ⟨by have := hz.1; omega, hk⟩) (hRC.zs (w' := (((((((wr.setCell ⟨w.heap.size, 0, none⟩ (.int .i64 4)).setCell ⟨w.heap.size, 1, none⟩ (.bool false)).setCell ⟨w.heap.size, 2, none⟩ nilS).setCell ⟨w.heap.size, 3, none⟩ (.string noS)).setCell ⟨w.heap.size, 4, none⟩ (.int .i64 0)).setCell ⟨w.heap.size, 5, none⟩ (.slice oL ls.length cL)).setCell ⟨w.heap.size, 6, none⟩ nilS)) (fun k hk => onR.2.2 k (by have := hk.1; omega)))
       unfold tupT TV
       exact ⟨none, 0, oL, cL, none, 0, rfl, Ls.nil _ _ _, by simp, Lm.nil _, LsB.nil _ _ _, by simp, hcL, own_trz hO2 hR2 (fun q _ hq hq2 => ⟨by omega, hq2⟩)⟩
     have hBF : Below w.heap.size w (((((((wr.setCell ⟨w.heap.size, 0, none⟩ (.int .i64 4)).setCell ⟨w.heap.size, 1, none⟩ (.bool false)).setCell ⟨w.heap.size, 2, none⟩ nilS).setCell ⟨w.heap.size, 3, none⟩ (.string noS)).setCell ⟨w.heap.size, 4, none⟩ (.int .i64 0)).setCell ⟨w.heap.size, 5, none⟩ (.slice oL ls.length cL)).setCell ⟨w.heap.size, 6, none⟩ nilS) := hbV.trans (onR.below (B := w.heap.size) (Nat.le_refl _))
     have HF := hid hfin
     have HBF := hid hBF
     clear hfin hBF onR hRC hOw
     go_wp2
     exact bodyPost_ret (v := tmV 4 false nilS noS 0 (.slice oL ls.length cL) nilS) (by simp [results, Tryz.results11, go_sem, r0, r1, r2, r3, r4, r5, r6]) rfl ⟨_, rfl, HF.out, HBF.out⟩
end Go.Proofs.YtlojfmlaookpmaaGreatDoor
