/- Texts of mine, one behind the other: TermCopies, TermMake, TermOpen, TermRoomL, TermRTree, BigSame, TermInt, TermList, TermFacts, TermOf, TermRMay, TermRMay2. -/
import Derived.Test.YtlojfmlaookpmaaGreatDoorSqG
import Derived.Test.YtlojfmlaookpmaaGreatDoorSqD
import Derived.Lib.SmallJoins
import Derived.ChangeSlices
import Derived.ChangeArms
set_option linter.unusedSimpArgs false
set_option linter.unusedVariables false
set_option maxRecDepth 2000
open Array renaming getElem?_eq_some_iff → zge
namespace Go.Proofs.YtlojfmlaookpmaaGreatDoor
open Go.ChangeShapes Go.WideShapes Go.ChangeAt Go.RowKit Go.Shelf
set_option maxHeartbeats 4000000 in
set_option maxRecDepth 4000 in
theorem copies_w (ls : List Tm) (o : Option Addr) (c : Nat) (w : World) (hne : ls ≠ []) (hlen : (partsL ls).length ≤ 500000) (hl : ls.length ≤ 500000) (hok : ∀ p ∈ partsL ls, p.ok1) (hT : TR (Low w) w ls o) :
   Calls Tryz.prog 115 #[.slice o ls.length c] w fun e w' => ∃ g' c', e = .returned (.slice (some ⟨g', 0, none⟩) ls.length c') ∧ TR (Zw w.heap.size w') w' (cpL ls) (some ⟨g', 0, none⟩) ∧ ls.length ≤ c' ∧ Below w.heap.size w w' := by
 obtain ⟨xs, hRC, hLc⟩ := hT.rc
 obtain ⟨iT, hT1, hT2, hT3, hT4⟩ := info_parts infoT
 obtain ⟨i0, hi, hyy0, hyy1, hyy2⟩ := info_parts infoR
 obtain ⟨vA, w1, hr1, hA1, b1⟩ := ap_run 24 27 iT _ 7 112 Tryz.underlying24 hT1 hT2 hT3 hT4 rfl (by decide) w o c ls.length xs hRC.len hRC.one (by omega) (by omega) hLc
 have hRC1 := hRC.zs (fun k hk => b1.block k hk)
 obtain ⟨oA, cA, rfl, hcA⟩ := own_sl hA1
 obtain ⟨gA, rfl⟩ : ∃ gA, oA = some ⟨gA, 0, none⟩ := by
   obtain ⟨h1, ⟨h2, h3⟩ | ⟨g', cap', cur, h2, _⟩⟩ := hA1
   · exact absurd (List.eq_nil_of_length_eq_zero h3) hne
   · simp only [Value.slice.injEq, true_and] at h2
     exact ⟨g', h2.1⟩
 clear hT hRC hLc
 have hxs := hid (show ∃ x, x = xs from ⟨_, rfl⟩)
 go_enter Tryz.func115, Tryz.ntmps115
 go_wp2_with (at_builtin; refine wpList_append_run rfl _ _ 24 rfl _ _ _ _ rfl rfl hr1 ?_)
 clear hr1
 obtain ⟨G, hG⟩ : ∃ G : World → Prop, G = fun w' => TR (Zw w.heap.size w') w' (cpL ls) (some ⟨gA, 0, none⟩) := ⟨_, rfl⟩
 have hCI : CI w.heap.size w1 (fun _ => False) [⟨gA, cA, ls⟩] G := by
   obtain ⟨cur, hgA, hBA, _, _⟩ := own_blk hA1
   refine ⟨by simp, fun r hr => ?_, fun k hk => hk.elim, fun w' _ hd => ?_, fun r hr => ?_⟩
   · simp at hr; subst hr
     exact ⟨hBA, xs, hRC1, hA1⟩
   · rw [hG]; exact (hd ⟨gA, cA, ls⟩ (by simp)).tr
   · simp at hr; subst hr; exact hok
 have hHG := hid hG
 clear hG
 have hW0 := World.ownsRow_lit (e := 24) (size := 1) (base := w.heap.size) w1 #[.slice (some ⟨gA, 0, none⟩) ls.length cA] 1 b1.size (by simp [maxLen]) (by simp)
 have hCI1 := hCI.kept (Kept.of_alloc (F := fun _ => False) w1 (.cells #[.slice (some ⟨gA, 0, none⟩) ls.length cA] 24)) (fun _ h => h.elim) (fun _ _ => id) (fun _ _ => id) b1.size
 have hB1 := b1.alloc b1.size (.cells #[.slice (some ⟨gA, 0, none⟩) ls.length cA] 24)
 clear hCI hA1 hRC1 hxs hok
 generalize (w1.alloc (.cells #[.slice (some ⟨gA, 0, none⟩) ls.length cA] 24)) = W0 at *
 go_loopg [4] (mu [⟨gA, cA, ls⟩]) (fun t v4 wr => ∃ (st : List Pr) (Fp : Nat → Prop), t = mu st ∧ CI w.heap.size wr Fp st G ∧ mu st ≤ 500001 ∧ wr.ownsRow w.heap.size 24 1 v4 st.length (st.map Pr.val).reverse ∧ Below w.heap.size w wr)
 case atStart => exact ⟨[⟨gA, cA, ls⟩], _, rfl, hCI1, by simp only [mu]; omega, by simpa [Pr.val] using hW0, hB1⟩
 case round =>
   obtain ⟨st, Fp, rfl, hI, hmu, hOw, hBw⟩ := hrel
   clear hCI1 hW0 hB1
   cases st with
   | nil =>
     obtain ⟨o5, c5, rfl, _⟩ := own_shape hOw
     have hfin : G wr := hI.wo wr (fun _ _ => rfl) (fun r hr => by simp at hr)
     have hHf := hid hfin
     clear hOw hI hfin
     go_wp2
     go_ret
     have := hHf.out
     rw [hHG.out] at this
     exact ⟨gA, cA, rfl, this, hcA, hBw⟩
   | cons r st =>
     obtain ⟨g, rc, l⟩ := r
     obtain ⟨o5, c5, rfl, ho5⟩ := own_shape hOw
     obtain ⟨g5, rfl⟩ := ho5 (by simp)
     clear ho5
     simp only [List.map_cons, List.reverse_cons, List.length_cons] at hOw
     obtain ⟨hOw', hcell, hBg, hgl, hc5⟩ := own_take1 hOw
     clear hOw
     unfold Pr.val at hcell
     simp only at hcell
     obtain ⟨hgS, x0, hRC0, hOR0⟩ := hI.pend ⟨g, rc, l⟩ (by simp)
     have hJ : CJ w.heap.size wr Fp st g rc l 0 [] x0 G := by
       refine ⟨hI.nd, fun r hr => hI.pend r (List.mem_cons_of_mem _ hr), fun k hk => ?_, fun hf => ?_, hI.wo.pop hgS, fun r hr => hI.ok r (List.mem_cons_of_mem _ hr), hI.ok ⟨g, rc, l⟩ (by simp), by simp, hRC0, hOR0, hgS⟩
       · obtain ⟨h1, h2, h3⟩ := hI.fp k hk
         exact ⟨h1, h2, fun r hr => h3 r (List.mem_cons_of_mem _ hr)⟩
       · exact (hI.fp g hf).2.2 ⟨g, rc, l⟩ (by simp) rfl
     clear hRC0 hOR0 hI
     have hmu' : (partsL l).length + 1 + mu st ≤ 500001 := by simpa [mu] using hmu
     have hsl : st.length ≤ 500001 := by have := mu_len st; omega
     have hll : l.length ≤ 500001 := by have := partsL_len l; omega
     clear hmu
     go_wp2_with fail
     have hMb : Hid (∃ M, M = (partsL l).length + mu st) := hid ⟨_, rfl⟩
     obtain ⟨M, hM⟩ : ∃ M, M = (partsL l).length + mu st := ⟨_, rfl⟩
     have hHM := hid hM
     clear hM hMb
     have hMl : M ≤ 500000 := by have := hHM.out; omega
     clear hmu'
     go_loopg [4, 28] l.length (fun t v4 iv wx => ∃ (i : Nat) (st' : List Pr) (Fp' : Nat → Prop) (pre xs : List Value), t + i = l.length ∧ iv = .int .i64 (i : Int) ∧ CJ w.heap.size wx Fp' st' g rc l i pre xs G ∧ (partsL (l.drop i)).length + mu st' ≤ M ∧ wx.ownsRow w.heap.size 24 1 v4 st'.length (st'.map Pr.val).reverse ∧ Below w.heap.size w wx)
     case atStart => exact ⟨0, st, Fp, [], x0, by omega, rfl, hJ, by rw [List.drop_zero, ← hHM.out]; exact Nat.le_refl _, hOw', hBw⟩
     case round =>
       obtain ⟨i, st', Fp', pre, xs, hti, rfl, hJ, hmu, hOw2, hBw2⟩ := hrel
       clear hOw' hBw hcell hgl hBg hc5
       obtain ⟨o4, c4, rfl, _⟩ := own_shape hOw2
       by_cases hil : i = l.length
       · subst hil
         have hx0 : xs = [] := by
           have := hJ.rc
           rw [List.drop_length] at this
           exact this
         subst hx0
         have hI : CI w.heap.size wr (fun k => Fp' k ∨ k = g) st' G := by
           have hro := rowB_of hJ.own
           rw [List.append_nil] at hro
           have hwi := hJ.wi
           rw [List.drop_length] at hwi
           refine ⟨(List.nodup_cons.1 hJ.nd).2, hJ.pend, fun k hk => ?_, hwi.fin hro, hJ.ok⟩
           rcases hk with hk | rfl
           · exact hJ.fp k hk
           · obtain ⟨cur, hg, hS, _, _⟩ := own_blk hJ.own
             exact ⟨hS, ⟨cur, 27, hg, by decide⟩, fun r hr e => (List.nodup_cons.1 hJ.nd).1 (List.mem_map.2 ⟨r, hr, e⟩)⟩
         have hmu2 : mu st' ≤ M := by omega
         clear hmu hJ
         go_wp2
         go_roundg (mu st')
         case measure => have := hHM.out; simp only [mu]; omega
         case rel => exact ⟨st', _, rfl, hI, by omega, hOw2, hBw2⟩
       · have hil' : i < l.length := by omega
         obtain ⟨t, ht⟩ : ∃ t, l[i]? = some t := ⟨l[i], by simp [hil']⟩
         have hdrop : l.drop i = t :: l.drop (i + 1) := by
           rw [List.drop_eq_getElem_cons hil']
           rw [List.getElem?_eq_getElem hil'] at ht
           injection ht with ht; rw [ht]
         have hrc := hJ.rc
         rw [hdrop] at hrc
         obtain ⟨tk, tneg, tod, tld, tcd, tnm, tn, tol, tll, tcl, tob, tlb, tcb, ys, hTV, rfl, hRCr⟩ := hrc
         have hHd := hid hdrop
         clear hdrop ht
         have hii : ((i : Nat) : Int) < ((l.length : Nat) : Int) := by omega
         have hpl := hJ.pl
         obtain ⟨y0, y1, y2, y3, y4, y5, y6⟩ := own_cells7 hJ.own hpl
         have kA := Bx.new wr (.int .i64 tk) (.bool tneg) (.slice tod tld tcd) (.string tnm) (.int .i64 tn) (.slice tol tll tcl) (.slice tob tlb tcb) 27
         have hJ1 := hJ.kept (Kept.of_alloc (F := fun _ => False) wr (.cells #[.int .i64 tk, .bool tneg, .slice tod tld tcd, .string tnm, .int .i64 tn, .slice tol tll tcl, .slice tob tlb tcb] 27)) (fun _ h => h.elim) (fun _ _ => id) (fun _ _ => id) id hBw2.size
         have hO1 := own_below hOw2 ((Below.refl _ wr).alloc (Nat.le_refl _) (.cells #[.int .i64 tk, .bool tneg, .slice tod tld tcd, .string tnm, .int .i64 tn, .slice tol tll tcl, .slice tob tlb tcb] 27))
         have hB1 := hBw2.alloc hBw2.size (.cells #[.int .i64 tk, .bool tneg, .slice tod tld tcd, .string tnm, .int .i64 tn, .slice tol tll tcl, .slice tob tlb tcb] 27)
         have hz1 : (wr.alloc (.cells #[.int .i64 tk, .bool tneg, .slice tod tld tcd, .string tnm, .int .i64 tn, .slice tol tll tcl, .slice tob tlb tcb] 27)).heap.size = wr.heap.size + 1 := by simp
         have hTV1 : TV (fun k => k < w.heap.size) (wr.alloc (.cells #[.int .i64 tk, .bool tneg, .slice tod tld tcd, .string tnm, .int .i64 tn, .slice tol tll tcl, .slice tob tlb tcb] 27)) t _ := TV.zs (fun k hk => ((Below.refl wr.heap.size wr).alloc (Nat.le_refl _) _).block k (Nat.lt_of_lt_of_le hk hBw2.size)) _ _ hTV
         clear hJ hOw2 hRCr hTV
         have hokt : t.ok1 := hJ1.okl t (by rw [hHd.out]; simp [partsL, parts_eq])
         go_wp2_with fail
         clear y0 y1 y2 y3 y4 y5 y6
         generalize (wr.alloc (.cells #[.int .i64 tk, .bool tneg, .slice tod tld tcd, .string tnm, .int .i64 tn, .slice tol tll tcl, .slice tob tlb tcb] 27)) = w2 at *
         refine (detached_w w.heap.size t _ _ hB1.size hokt hTV1).mono ?_
         rintro e w3 ⟨v3, rfl, hD3, b3⟩
         have hJ3 := hJ1.kept (Kept.of_below (F := fun _ => False) b3) (fun _ h => h.elim) (fun _ _ => id) (fun _ _ => id) id hB1.size
         have hO3 := own_below hO1 b3
         have hB3 := below_and hB1 (by omega) b3
         have hgB : g < w2.heap.size := by obtain ⟨cur, hg, _⟩ := own_blk hJ1.own; exact (zge.1 hg).1
         have hrB : Hid (∀ r ∈ st', r.g < w2.heap.size) := hid fun r hr => by obtain ⟨cur, hg⟩ := (hJ1.pend r hr).blk; exact (zge.1 hg).1
         have hfB : Hid (∀ k, Fp' k → k < w2.heap.size) := hid fun k hk => by obtain ⟨_, ⟨c, t, hc, _⟩, _⟩ := hJ1.fp k hk; exact (zge.1 hc).1
         have hoB : Hid (∀ k, (Value.slice o4 st'.length c4).ownBlock = some k → w.heap.size ≤ k ∧ k < w2.heap.size) := hid hO1.lt
         clear hJ1 hO1 hTV1 kA
         obtain ⟨dk, dneg, oD, lD, cD, dnm, dn, oL, lL, cL, oB, lB, cB, rfl⟩ := hD3.form
         obtain ⟨y0, y1, y2, y3, y4, y5, y6⟩ := own_cells7 hJ3.own hpl
         have hfr := own_fr hJ3.own
         have hS3 := hB3.size
         unfold tmV
         go_upto_region 11 with fail
         have hO4 := own_put7 (b0 := .int .i64 dk) (b1 := .bool dneg) (b2 := .slice oD lD cD) (b3 := .string dnm) (b4 := .int .i64 dn) (b5 := .slice oL lL cL) (b6 := .slice oB lB cB) hJ3.own hpl
         have hon := only_put7 w3 g (i * 7) (.int .i64 dk) (.bool dneg) (.slice oD lD cD) (.string dnm) (.int .i64 dn) (.slice oL lL cL) (.slice oB lB cB)
         have hkp : Kept (fun k => k = g) w3 (((((((w3.setCell ⟨g, i * 7, none⟩ (.int .i64 dk)).setCell ⟨g, i * 7 + 1, none⟩ (.bool dneg)).setCell ⟨g, i * 7 + 2, none⟩ (.slice oD lD cD)).setCell ⟨g, i * 7 + 3, none⟩ (.string dnm)).setCell ⟨g, i * 7 + 4, none⟩ (.int .i64 dn)).setCell ⟨g, i * 7 + 5, none⟩ (.slice oL lL cL)).setCell ⟨g, i * 7 + 6, none⟩ (.slice oB lB cB)) := ⟨hon.1.os, hon.1.tape, hon.1.output, hon.1.size, fun k hk hn => hon.2.2 k hn⟩
         have hB4 := hB3.trans (hon.below (B := w.heap.size) hJ3.gS)
         clear y0 y1 y2 y3 y4 y5 y6 hfr hon
         generalize (((((((w3.setCell ⟨g, i * 7, none⟩ (.int .i64 dk)).setCell ⟨g, i * 7 + 1, none⟩ (.bool dneg)).setCell ⟨g, i * 7 + 2, none⟩ (.slice oD lD cD)).setCell ⟨g, i * 7 + 3, none⟩ (.string dnm)).setCell ⟨g, i * 7 + 4, none⟩ (.int .i64 dn)).setCell ⟨g, i * 7 + 5, none⟩ (.slice oL lL cL)).setCell ⟨g, i * 7 + 6, none⟩ (.slice oB lB cB)) = w4 at *
         obtain ⟨y0, y1, y2, y3, y4, y5, y6⟩ := own_cells7 hO4 hpl
         have hgr : w3.grownBy w4 (some g) := ⟨hkp.os, hkp.tape, hkp.output, hkp.size, fun k hk hne => hkp.block k hk (fun e => hne (by rw [e]))⟩
         obtain ⟨curg, hgw3, _⟩ := own_blk hJ3.own
         have hwn : ¬ (Value.slice o4 st'.length c4).ownBlock = some g := wait_ne hO3 hgw3 (by decide)
         have hOw4 := hO3.kept hgr (.inr hwn)
         have hmuS := hid (show (partsL (l.drop i)).length = 1 + (partsL t.kids).length + (partsL (l.drop (i + 1))).length by rw [hHd.out]; simp only [partsL, parts_eq, List.length_append, List.length_cons]; omega)
         have hnr : ∀ r ∈ st', r.g ≠ g := fun r hr e => (List.nodup_cons.1 hJ3.nd).1 (List.mem_map.2 ⟨r, hr, e⟩)
         have hfin := cj_step (M := fun k => k = g) (wF := w4) hJ3 hHd.out hD3 hB1.size hgB hrB.out hfB.out hkp (fun k hk => by rw [hk]; exact ⟨hJ3.gS, hgB⟩) hnr (fun k hf e => hJ3.fpg (e ▸ hf)) hS3 (by simpa using hO4)
         obtain ⟨hlL, hc0, _⟩ := hfin
         by_cases hk0 : t.kids = []
         · have hJ5 := hc0 hk0
           have hlL0 : lL = 0 := by rw [hlL, hk0]; rfl
           subst hlL0
           have hmu5 : (partsL (l.drop (i + 1))).length + mu st' ≤ M := by have := hmuS.out; omega
           clear hlL hc0 hnr hmu hJ3 hO3 hgr hwn hkp hD3
           have hHk := hid hk0
           clear hk0
           go_wp2
           go_roundg (l.length - (i + 1))
           case measure => omega
           case rel => exact ⟨i + 1, st', _, _, ys, by omega, by go_num, hJ5, hmu5, hOw4, hB4⟩
         · have hkl : 0 < t.kids.length := List.length_pos_iff.2 hk0
           have hlp : (0 : Int) < (lL : Int) := by rw [hlL]; omega
           have hHO := hid (hOw4.alloc (.cells #[.slice oL lL cL] 24))
           have hS4 := hB4.size
           have hsl4 : st'.length + 1 ≤ 500001 := by have := mu_len st'; have := hmuS.out; omega
           clear hc0
           have hHk := hid hk0
           have hHL := hid hlL
           clear hk0 hlL
           go_wp2_with (at_builtin; refine wpList_append_own _ rfl _ _ 98 rfl w.heap.size 24 i0 (.slice none 0 0) 1 24 Tryz.underlying98 hi hyy0 hyy1 hyy2 rfl (by decide) _ _ _ rfl hHO.out ⟨w4.heap.size, 0, none⟩ 1 1 [.slice oL lL cL] rfl ?c1 ?c2 ?c3 ?c4 ?c5 ?c6 ?_)
           case c1 => rfl
           case c2 =>
             intro j u hj
             cases j with
             | zero =>
               simp only [List.getElem?_cons_zero, Option.some.injEq] at hj
               subst hj
               rw [add_zero, World.cell?_alloc_mark]; rfl
             | succ j => simp at hj
           case c3 => intro u hu; simp at hu; subst hu; rfl
           case c4 => unfold maxLen; omega
           case c5 => omega
           case c6 => simp; omega
           intro v6 w6 hown hgrow hnil
           have hk6 : Kept (fun k => k = g ∨ (Value.slice o4 st'.length c4).ownBlock = some k) w3 w6 := ((hkp.mono (fun k hk => .inl hk)).trans (Kept.of_alloc w4 _)).trans (Kept.of_grown hgrow (fun k hk => .inr hk))
           have hgu : w6.heap[g]? = w4.heap[g]? := by
             have h1 : (w4.alloc (.cells #[.slice oL lL cL] 24)).heap[g]? = w4.heap[g]? := ((Below.refl w4.heap.size w4).alloc (Nat.le_refl _) _).block g (Nat.lt_of_lt_of_le (zge.1 hgw3).1 hkp.size)
             rw [← h1]
             exact hgrow.block g (by have := (zge.1 hgw3).1; have := hkp.size; simp; omega) (fun e => hwn e.symm)
           have hO6 := own_same hO4 hgu
           have hfin := cj_step (wF := w6) hJ3 hHd.out hD3 hB1.size hgB hrB.out hfB.out hk6 (fun k hk => by
               rcases hk with rfl | hk
               · exact ⟨hJ3.gS, hgB⟩
               · exact hoB.out k hk) (fun r hr hm => by
               rcases hm with hm | hm
               · exact hnr r hr hm
               · obtain ⟨cur, hc⟩ := (hJ3.pend r hr).blk
                 exact wait_ne hO3 hc (by decide) hm) (fun k hf hm => by
               rcases hm with rfl | hm
               · exact hJ3.fpg hf
               · obtain ⟨_, ⟨c, t, hc, ht⟩, _⟩ := hJ3.fp k hf
                 exact wait_ne hO3 hc ht hm) hS3 (by simpa using hO6)
           obtain ⟨_, _, hc1⟩ := hfin
           obtain ⟨gL, hoL, hJ5⟩ := hc1 hHk.out
           have hB6 : Below w.heap.size w w6 := (hB4.alloc hS4 _).trans (show Below w.heap.size _ w6 from ⟨hgrow.os, hgrow.tape, hgrow.output, hgrow.size, fun k hk => hgrow.block k (by simp; omega) (fun e => by have := hoB.out k e.symm; omega)⟩)
           have hmu5 : (partsL (l.drop (i + 1))).length + mu (⟨gL, cL, t.kids⟩ :: st') ≤ M := by have := hmuS.out; simp only [mu]; omega
           have hOw6 : w6.ownsRow w.heap.size 24 1 v6 (Pr.mk gL cL t.kids :: st').length ((Pr.mk gL cL t.kids :: st').map Pr.val).reverse := by
             have hll' := hHL.out
             subst hoL
             subst hll'
             simpa [Pr.val] using hown
           clear hown hgrow hnil hk6 hgu hO6 hc1 hJ3 hO3 hgr hwn hkp hD3 hHO hnr hOw4 hO4 y0 y1 y2 y3 y4 y5 y6
           go_wp2
           go_roundg (l.length - (i + 1))
           case measure => omega
           case rel => exact ⟨i + 1, _, _, _, ys, by omega, by go_num, hJ5, hmu5, hOw6, hB6⟩
theorem Bx.res {g : Nat} {a0 a1 a2 a3 a4 a5 a6 : Value} {w : World} (h : Bx g a0 a1 a2 a3 a4 a5 a6 w) : w.cell? ⟨g, 0, none⟩ = some a0 ∧ w.cell? ⟨g, 1, none⟩ = some a1 ∧ w.cell? ⟨g, 2, none⟩ = some a2 ∧ w.cell? ⟨g, 3, none⟩ = some a3 ∧ w.cell? ⟨g, 4, none⟩ = some a4 ∧ w.cell? ⟨g, 5, none⟩ = some a5 ∧ w.cell? ⟨g, 6, none⟩ = some a6 := ⟨h.c0, h.c1, h.c2, h.c3, h.c4, h.c5, h.c6⟩
theorem zw_move {S S' : Nat} {w w' : World} {t : Tm} {v : Value} (h : TV (Zw S w) w t v) (hb : ∀ k, S ≤ k → k < w.heap.size → w'.heap[k]? = w.heap[k]?) (hS : S' ≤ S) : TV (Zw S' w') w' t v := by
 have h1 : TV (fun k => Zw S w k ∧ k < w.heap.size) w t v := TV.mono (fun k hk hz => ⟨hz, hk⟩) _ _ h
 have h2 := TV.zs (w' := w') (fun k hk => hb k hk.1.1 hk.2) _ _ h1
 refine TV.mono (fun k _ hz => ⟨Nat.le_trans hS hz.1.1, fun j => ?_⟩) _ _ h2
 have := World.frozen?_of_block (a := ⟨k, j, none⟩) (hb k hz.1.1 hz.2)
 exact this.trans (hz.1.2 j)
theorem tv_low {Z : Nat → Prop} {w : World} {t : Tm} {v : Value} (h : TV Z w t v) : TV (Low w) w t v := TV.mono (fun k hk _ => hk) _ _ h
theorem tv_below {w w' : World} {t : Tm} {v : Value} (h : TV (Low w) w t v) (hb : Below w.heap.size w w') : TV (Low w') w' t v := tv_low (TV.zs (fun k hk => hb.block k hk) _ _ h)
theorem tr_low {Z : Nat → Prop} {w : World} {l : List Tm} {o : Option Addr} (h : TR Z w l o) : TR (Low w) w l o := TR.mono (fun k hk _ => hk) _ _ h
theorem tr_below {w w' : World} {l : List Tm} {o : Option Addr} (h : TR (Low w) w l o) (hb : Below w.heap.size w w') : TR (Low w') w' l o := tr_low (TR.zs (fun k hk => hb.block k hk) _ _ h)
theorem tr_one {w : World} {t : Tm} {k : Int} {neg : Bool} {od : Option Addr} {ld cd : Nat} {nm : ByteArray} {n : Int} {ol : Option Addr} {ll cl : Nat} {ob : Option Addr} {lb cb : Nat} {ty : TypeId} (h : TV (Low w) w t (tmV k neg (.slice od ld cd) nm n (.slice ol ll cl) (.slice ob lb cb))) :
   TR (Low (w.alloc (.cells #[.int .i64 k, .bool neg, .slice od ld cd, .string nm, .int .i64 n, .slice ol ll cl, .slice ob lb cb] ty))) (w.alloc (.cells #[.int .i64 k, .bool neg, .slice od ld cd, .string nm, .int .i64 n, .slice ol ll cl, .slice ob lb cb] ty)) [t] (some ⟨w.heap.size, 0, none⟩) := by
 have hb := (Below.refl w.heap.size w).alloc (Nat.le_refl _) (.cells #[.int .i64 k, .bool neg, .slice od ld cd, .string nm, .int .i64 n, .slice ol ll cl, .slice ob lb cb] ty)
 have kx := Bx.new w (.int .i64 k) (.bool neg) (.slice od ld cd) (.string nm) (.int .i64 n) (.slice ol ll cl) (.slice ob lb cb) ty
 unfold TR
 exact ⟨_, _, rfl, kx.lt, ⟨_, _, _, _, _, _, _, rfl, kx.c0, by rw [addr_add]; exact kx.c1, by rw [addr_add]; exact kx.c2, by rw [addr_add]; exact kx.c3, by rw [addr_add]; exact kx.c4, by rw [addr_add]; exact kx.c5, by rw [addr_add]; exact kx.c6⟩, tv_below h hb, by unfold TR; trivial⟩
set_option maxHeartbeats 1000000 in
theorem Copy_w (T : Tm) (v : Value) (w : World) (hlen : (parts T).length ≤ 500000) (hok : ∀ p ∈ parts T, p.ok1) (hT : TV (Low w) w T v) :
   Calls Tryz.prog 84 #[v] w fun e w' => ∃ v', e = .returned v' ∧ TV (Zw w.heap.size w') w' (cpT T) v' ∧ Below w.heap.size w w' := by
 obtain ⟨k, neg, od, ld, cd, nm, n, ol, ll, cl, ob, lb, cb, rfl⟩ := hT.form
 obtain ⟨kA, kB, hB0, hz0⟩ := bx2 w (.int .i64 k) (.bool neg) (.slice od ld cd) (.string nm) (.int .i64 n) (.slice ol ll cl) (.slice ob lb cb) (.int .i64 0) (.bool false) nilS (.string noS) (.int .i64 0) nilS nilS 27 27
 go_enter Tryz.func84, Tryz.ntmps84
 go_wp2_with fail
 generalize hW : ((w.alloc (.cells #[.int .i64 k, .bool neg, .slice od ld cd, .string nm, .int .i64 n, .slice ol ll cl, .slice ob lb cb] 27)).alloc (.cells #[.int .i64 0, .bool false, .slice none 0 0, .string { data := #[] }, .int .i64 0, .slice none 0 0, .slice none 0 0] 27)) = W0 at *
 clear hW
 have hT1 := tr_one (ty := 27) (tv_below hT hB0)
 have hB1 := hB0.alloc (by omega) (.cells #[.int .i64 k, .bool neg, .slice od ld cd, .string nm, .int .i64 n, .slice ol ll cl, .slice ob lb cb] 27)
 have kB1 := kB.below ((Below.refl _ W0).alloc (Nat.le_refl _) (.cells #[.int .i64 k, .bool neg, .slice od ld cd, .string nm, .int .i64 n, .slice ol ll cl, .slice ob lb cb] 27))
 have hz1 : (W0.alloc (.cells #[.int .i64 k, .bool neg, .slice od ld cd, .string nm, .int .i64 n, .slice ol ll cl, .slice ob lb cb] 27)).heap.size = w.heap.size + 3 := by simp [hz0]
 rw [hz0] at hT1
 generalize (W0.alloc (.cells #[.int .i64 k, .bool neg, .slice od ld cd, .string nm, .int .i64 n, .slice ol ll cl, .slice ob lb cb] 27)) = W1 at *
 refine (copies_w [T] _ _ _ (by simp) (by simpa [partsL] using hlen) (by simp) (by simpa [partsL] using hok) hT1).mono ?_
 rintro e w2 ⟨g', c', rfl, hR, _, b2⟩
 simp only [cpL] at hR
 unfold TR at hR
 obtain ⟨a, v2, ha, hZ, hA, hV, _⟩ := hR
 injection ha with ha
 subst ha
 obtain ⟨k2, neg2, od2, ld2, cd2, nm2, n2, ol2, ll2, cl2, ob2, lb2, cb2, rfl⟩ := hV.form
 obtain ⟨x0, x1, x2, x3, x4, x5, x6⟩ := hA.tm
 simp only [Nat.zero_add] at x1 x2 x3 x4 x5 x6
 have kB2 := kB1.below b2
 have hB2 := below_and hB1 (by omega) b2
 have hf := kB2.fr
 obtain ⟨f0, f1, f2, f3, f4, f5, f6, _⟩ := id kB2
 have hput := kB2.put (b0 := .int .i64 k2) (b1 := .bool neg2) (b2 := .slice od2 ld2 cd2) (b3 := .string nm2) (b4 := .int .i64 n2) (b5 := .slice ol2 ll2 cl2) (b6 := .slice ob2 lb2 cb2)
 have hon := only_put w2 (w.heap.size + 1) (.int .i64 k2) (.bool neg2) (.slice od2 ld2 cd2) (.string nm2) (.int .i64 n2) (.slice ol2 ll2 cl2) (.slice ob2 lb2 cb2)
 obtain ⟨r0, r1, r2, r3, r4, r5, r6⟩ := hput.res
 go_wp2
 refine bodyPost_ret (v := tmV k2 neg2 (.slice od2 ld2 cd2) nm2 n2 (.slice ol2 ll2 cl2) (.slice ob2 lb2 cb2)) (by simp [results, Tryz.results84, go_sem, r0, r1, r2, r3, r4, r5, r6]) rfl ⟨_, rfl, zw_move hV (fun k hk _ => hon.2.2 k (by omega)) (by omega), hB2.trans (hon.below (B := w.heap.size) (by omega))⟩
end Go.Proofs.YtlojfmlaookpmaaGreatDoor
namespace Go.Proofs.YtlojfmlaookpmaaGreatDoor
open Go.ChangeShapes Go.WideShapes Go.ChangeAt Go.ChangeMaps Go.RowKit
theorem c8 : Tryz.prog.cellsOf 5 = 1 := by kernel_rfl
theorem q1 : Tryz.prog.cellsOf 3 = 1 := by kernel_rfl
theorem q2 : Tryz.prog.cellsOf 4 = 1 := by kernel_rfl
theorem q3 : Tryz.prog.cellsOf 23 = 1 := by kernel_rfl
theorem q4 : Tryz.prog.cellsOf 9 = 1 := by kernel_rfl
theorem q5 : Tryz.prog.cellsOf 24 = 1 := by kernel_rfl
theorem q6 : Tryz.prog.cellsOf 25 = 1 := by kernel_rfl
end Go.Proofs.YtlojfmlaookpmaaGreatDoor
namespace Go.Proofs.YtlojfmlaookpmaaGreatDoor
open Go.ChangeShapes Go.WideShapes Go.ChangeAt Go.RowKit Go.Shelf
mutual
def tsz : Tm → Nat
 | .mk _ _ _ _ _ l _ => 1 + tszL l
def tszL : List Tm → Nat
 | [] => 0
 | t :: l => tsz t + tszL l
end
theorem tsz_mem : ∀ {l : List Tm} {i : Nat} {t : Tm}, l[i]? = some t → tsz t ≤ tszL l
 | [], i, t, h => by simp at h
 | x :: l, 0, t, h => by simp at h; subst h; simp only [tszL]; omega
 | x :: l, i + 1, t, h => by
   have := tsz_mem (l := l) (i := i) (t := t) (by simpa using h)
   simp only [tszL]; omega
theorem TR.get {w w' : World} {l : List Tm} {o : Option Addr} {i : Nat} {t : Tm} (h : TR (Low w) w l o) (ht : l[i]? = some t) (hb : Below w.heap.size w w') :
   ∃ a k neg od ld cd nm n ol ll cl ob lb cb, o = some a ∧ TV (Low w') w' t (tmV k neg (.slice od ld cd) nm n (.slice ol ll cl) (.slice ob lb cb)) ∧ w'.cell? (a.add (i * 7)) = some (.int .i64 k) ∧ w'.cell? ⟨(a.add (i * 7)).block, (a.add (i * 7)).off + 1, none⟩ = some (.bool neg) ∧ w'.cell? ⟨(a.add (i * 7)).block, (a.add (i * 7)).off + 2, none⟩ = some (.slice od ld cd) ∧ w'.cell? ⟨(a.add (i * 7)).block, (a.add (i * 7)).off + 3, none⟩ = some (.string nm) ∧ w'.cell? ⟨(a.add (i * 7)).block, (a.add (i * 7)).off + 4, none⟩ = some (.int .i64 n) ∧ w'.cell? ⟨(a.add (i * 7)).block, (a.add (i * 7)).off + 5, none⟩ = some (.slice ol ll cl) ∧ w'.cell? ⟨(a.add (i * 7)).block, (a.add (i * 7)).off + 6, none⟩ = some (.slice ob lb cb) := by
 obtain ⟨a, rfl⟩ : ∃ a, o = some a := by
   cases l with
   | nil => simp at ht
   | cons q qs =>
     unfold TR at h
     obtain ⟨a, _, ha, _⟩ := h
     exact ⟨a, ha⟩
 obtain ⟨vt, hZ, hA, hTv⟩ := TR.at _ _ i t h ht
 rw [Nat.mul_comm] at hA
 have hA' := hA.zs (Z := Low w) (by rw [block_add]; exact hZ) (fun k hk => hb.block k hk)
 have hTv' := tv_below hTv hb
 obtain ⟨k', neg', od', ld', cd', nm', n', ol', ll', cl', ob', lb', cb', rfl⟩ := hTv.form
 exact ⟨a, k', neg', od', ld', cd', nm', n', ol', ll', cl', ob', lb', cb', rfl, hTv', hA'.tm⟩
theorem partsL_take {l : List Tm} {i : Nat} {t : Tm} (h : l[i]? = some t) : (partsL (l.take (i + 1))).length = (partsL (l.take i)).length + (parts t).length := by
 induction l generalizing i with
 | nil => simp at h
 | cons x l ih =>
   cases i with
   | zero => simp at h; subst h; simp [partsL]
   | succ i =>
     simp only [List.getElem?_cons_succ] at h
     simp only [List.take_succ_cons, partsL, List.length_append, ih h]; omega
theorem partsL_take_le (l : List Tm) (i : Nat) : (partsL (l.take i)).length ≤ (partsL l).length := by
 induction l generalizing i with
 | nil => simp [partsL]
 | cons x l ih =>
   cases i with
   | zero => simp [partsL]
   | succ i => simp only [List.take_succ_cons, partsL, List.length_append]; have := ih i; omega
theorem tr_end {M M' n p q : Nat} (hM : M' = M + 1) (hH : (n ≤ M → n = p + 1) ∧ (M < n → M < p + 1)) (hle : p ≤ q) (hs : p = q ∨ M < n) : min (q + 1) M' = min n M' := by
 subst hM
 rcases hs with rfl | h
 · rcases Nat.lt_or_ge M n with h | h
   · have := hH.2 h; omega
   · have := hH.1 h; omega
 · have := hH.2 h; omega
theorem tr_step {M M' n p p' k q : Nat} (hM : M' = M + 1) (h1 : n = p + 1) (h2 : p' = p + k) (h3 : min k M' = q) : (n + q ≤ M → n + q = p' + 1) ∧ (M < n + q → M < p' + 1) := by
 subst hM; omega
theorem mem_partsL {l : List Tm} {i : Nat} {t p : Tm} (h : l[i]? = some t) (hp : p ∈ parts t) : p ∈ partsL l := by
 induction l generalizing i with
 | nil => simp at h
 | cons x l ih =>
   cases i with
   | zero => simp at h; subst h; simp [partsL, hp]
   | succ i => simp only [List.getElem?_cons_succ] at h; simp only [partsL, List.mem_append]; exact .inr (ih h)
set_option maxHeartbeats 2000000 in
set_option maxRecDepth 4000 in
theorem rTree_w : ∀ (N : Nat) (T : Tm) (v : Value) (w : World), tsz T ≤ N → (∀ p ∈ parts T, p.ok1) → TV (Low w) w T v →
   Calls Tryz.prog 38 #[v] w fun e w' => e = .returned (.int .i64 ((treeN T : Nat) : Int)) ∧ Below w.heap.size w w' := by
 intro N
 induction N with
 | zero => intro T v w h; cases T; simp only [tsz] at h; omega
 | succ N ih =>
 intro T v w hN hok hT
 have hok1 := hok T (by rw [parts_eq]; simp)
 cases T with | mk tk tneg td tnm tn tl tb =>
 obtain ⟨_, _, hll, _, _⟩ : td.length ≤ 1000000 ∧ tnm.size ≤ 1000000 ∧ tl.length ≤ 1000000 ∧ tb.length ≤ 1000000 ∧ Lm 4294967296 td := hok1
 unfold TV at hT
 obtain ⟨tod, tcd, tol, tcl, tob, tcb, rfl, _, _, _, _, _, htl, htR⟩ := hT
 have hB : Below w.heap.size w (w.alloc (.cells #[.int .i64 tk, .bool tneg, .slice tod td.length tcd, .string tnm, .int .i64 tn, .slice tol tl.length tcl, .slice tob tb.length tcb] 27)) := (Below.refl _ w).alloc (Nat.le_refl _) _
 have kA := Bx.new w (.int .i64 tk) (.bool tneg) (.slice tod td.length tcd) (.string tnm) (.int .i64 tn) (.slice tol tl.length tcl) (.slice tob tb.length tcb) 27
 have hIH := hid ih
 clear ih
 obtain ⟨R, hR⟩ : ∃ R, treeN (.mk tk tneg td tnm tn tl tb) = R := ⟨_, rfl⟩
 rw [hR]
 unfold treeN at hR
 by_cases hk : tk = 4 ∨ tk = 6
 · have hp : parts (.mk tk tneg td tnm tn tl tb) = .mk tk tneg td tnm tn tl tb :: partsL tl := by simp [parts, hk]
   have hok2 : Hid (∀ p ∈ partsL tl, p.ok1) := hid (fun p hp' => hok p (by rw [hp]; simp [hp']))
   rw [hp] at hR
   simp only [List.length_cons] at hR
   have hHR := hid hR
   clear hR hp hok
   rcases hk with rfl | rfl
   · skip
     go_enter Tryz.func38, Tryz.ntmps38
     go_wp2_with fail
     generalize (w.alloc (.cells #[.int .i64 4, .bool tneg, .slice tod td.length tcd, .string tnm, .int .i64 tn, .slice tol tl.length tcl, .slice tob tb.length tcb] 27)) = W0 at *
     go_loopg [3, 4] tl.length (fun t v3 v4 wr => ∃ (i n : Nat), t + i = tl.length ∧ v3 = .int .i64 (n : Int) ∧ v4 = .int .i64 (i : Int) ∧ n ≤ 131073 ∧ Hid ((n ≤ 65536 → n = (partsL (tl.take i)).length + 1) ∧ (65536 < n → 65536 < (partsL (tl.take i)).length + 1)) ∧ Bx w.heap.size (.int .i64 4) (.bool tneg) (.slice tod td.length tcd) (.string tnm) (.int .i64 tn) (.slice tol tl.length tcl) (.slice tob tb.length tcb) wr ∧ Below w.heap.size w wr)
     case atStart => exact ⟨0, 1, by omega, rfl, rfl, by omega, hid (by simp [partsL]), kA, hB⟩
     case round =>
       obtain ⟨i, n, hti, rfl, rfl, hn, hH, kr, hBr⟩ := hrel
       clear kA hB
       obtain ⟨x0, x1, x2, x3, x4, x5, x6⟩ := kr.res
       by_cases hst : i = tl.length ∨ 65536 < n
       · have hRn : R = min n 65537 := by
           have h1 := hH.out
           rw [← hHR.out]
           exact tr_end (M := 65536) rfl h1 (partsL_take_le tl i) (hst.imp (fun h => by rw [h, List.take_length]) id)
         by_cases hn2 : n ≤ 65536
         · have hil : i = tl.length := by omega
           have hRn2 : R = n := by omega
           subst hRn2
           have e1 : ¬ ((i : Int) < (tl.length : Int)) := by omega
           have e2 : ((R : Nat) : Int) ≤ 65536 := by omega
           clear hst hRn hil
           go_wp2
           go_ret
           refine ⟨?_, hBr⟩
           first | rfl | (simp; omega)
         · have hRn2 : R = 65537 := by omega
           subst hRn2
           have e2 : ¬ ((n : Int) ≤ 65536) := by omega
           have e3 : (65537 : Int) ≤ (n : Int) := by omega
           clear hst hRn
           go_wp2
           all_goals (
             go_ret
             refine ⟨?_, hBr⟩
             first | rfl | (simp; omega))
       · have hil' : i < tl.length := by omega
         have hii : ((i : Nat) : Int) < ((tl.length : Nat) : Int) := by omega
         have hn6 : n ≤ 65536 := by omega
         have hn7 : ((n : Nat) : Int) ≤ 65536 := by omega
         clear hst
         obtain ⟨t, ht⟩ : ∃ t, tl[i]? = some t := ⟨tl[i], by simp [hil']⟩
         obtain ⟨a, k', neg', od', ld', cd', nm', n', ol', ll', cl', ob', lb', cb', rfl, hTv', y0, y1, y2, y3, y4, y5, y6⟩ := htR.get ht hBr
         have hsz : tsz t ≤ N := by have := tsz_mem ht; simp only [tsz] at hN; omega
         have hokt : ∀ p ∈ parts t, p.ok1 := fun p hp => hok2.out p (mem_partsL ht hp)
         have hHt := hid ht
         have hst2 := hid (partsL_take ht)
         clear ht
         go_wp2_with fail
         refine (hIH.out t _ _ hsz hokt hTv').mono ?_
         rintro e w2 ⟨rfl, b2⟩
         have hB2 := below_and hBr (by have := hBr.size; omega) b2
         have k2 := kr.below b2
         have htn : treeN t ≤ 65537 := Nat.min_le_right _ _
         clear hTv' x0 x1 x2 x3 x4 x5 x6 y0 y1 y2 y3 y4 y5 y6 b2 hBr kr hokt
         obtain ⟨q, hq⟩ : ∃ q, treeN t = q := ⟨_, rfl⟩
         rw [hq] at htn ⊢
         have hHq := hid hq
         clear hq
         go_wp2
         go_roundg (tl.length - (i + 1))
         case measure => omega
         case rel =>
           refine ⟨i + 1, n + q, by omega, by go_num, by go_num, by omega, hid ?_, k2, hB2⟩
           exact tr_step (M := 65536) rfl (hH.out.1 hn6) hst2.out hHq.out
   · skip
     go_enter Tryz.func38, Tryz.ntmps38
     go_wp2_with fail
     generalize (w.alloc (.cells #[.int .i64 6, .bool tneg, .slice tod td.length tcd, .string tnm, .int .i64 tn, .slice tol tl.length tcl, .slice tob tb.length tcb] 27)) = W0 at *
     go_loopg [3, 4] tl.length (fun t v3 v4 wr => ∃ (i n : Nat), t + i = tl.length ∧ v3 = .int .i64 (n : Int) ∧ v4 = .int .i64 (i : Int) ∧ n ≤ 131073 ∧ Hid ((n ≤ 65536 → n = (partsL (tl.take i)).length + 1) ∧ (65536 < n → 65536 < (partsL (tl.take i)).length + 1)) ∧ Bx w.heap.size (.int .i64 6) (.bool tneg) (.slice tod td.length tcd) (.string tnm) (.int .i64 tn) (.slice tol tl.length tcl) (.slice tob tb.length tcb) wr ∧ Below w.heap.size w wr)
     case atStart => exact ⟨0, 1, by omega, rfl, rfl, by omega, hid (by simp [partsL]), kA, hB⟩
     case round =>
       obtain ⟨i, n, hti, rfl, rfl, hn, hH, kr, hBr⟩ := hrel
       clear kA hB
       obtain ⟨x0, x1, x2, x3, x4, x5, x6⟩ := kr.res
       by_cases hst : i = tl.length ∨ 65536 < n
       · have hRn : R = min n 65537 := by
           have h1 := hH.out
           rw [← hHR.out]
           exact tr_end (M := 65536) rfl h1 (partsL_take_le tl i) (hst.imp (fun h => by rw [h, List.take_length]) id)
         by_cases hn2 : n ≤ 65536
         · have hil : i = tl.length := by omega
           have hRn2 : R = n := by omega
           subst hRn2
           have e1 : ¬ ((i : Int) < (tl.length : Int)) := by omega
           have e2 : ((R : Nat) : Int) ≤ 65536 := by omega
           clear hst hRn hil
           go_wp2
           go_ret
           refine ⟨?_, hBr⟩
           first | rfl | (simp; omega)
         · have hRn2 : R = 65537 := by omega
           subst hRn2
           have e2 : ¬ ((n : Int) ≤ 65536) := by omega
           have e3 : (65537 : Int) ≤ (n : Int) := by omega
           clear hst hRn
           go_wp2
           all_goals (
             go_ret
             refine ⟨?_, hBr⟩
             first | rfl | (simp; omega))
       · have hil' : i < tl.length := by omega
         have hii : ((i : Nat) : Int) < ((tl.length : Nat) : Int) := by omega
         have hn6 : n ≤ 65536 := by omega
         have hn7 : ((n : Nat) : Int) ≤ 65536 := by omega
         clear hst
         obtain ⟨t, ht⟩ : ∃ t, tl[i]? = some t := ⟨tl[i], by simp [hil']⟩
         obtain ⟨a, k', neg', od', ld', cd', nm', n', ol', ll', cl', ob', lb', cb', rfl, hTv', y0, y1, y2, y3, y4, y5, y6⟩ := htR.get ht hBr
         have hsz : tsz t ≤ N := by have := tsz_mem ht; simp only [tsz] at hN; omega
         have hokt : ∀ p ∈ parts t, p.ok1 := fun p hp => hok2.out p (mem_partsL ht hp)
         have hHt := hid ht
         have hst2 := hid (partsL_take ht)
         clear ht
         go_wp2_with fail
         refine (hIH.out t _ _ hsz hokt hTv').mono ?_
         rintro e w2 ⟨rfl, b2⟩
         have hB2 := below_and hBr (by have := hBr.size; omega) b2
         have k2 := kr.below b2
         have htn : treeN t ≤ 65537 := Nat.min_le_right _ _
         clear hTv' x0 x1 x2 x3 x4 x5 x6 y0 y1 y2 y3 y4 y5 y6 b2 hBr kr hokt
         obtain ⟨q, hq⟩ : ∃ q, treeN t = q := ⟨_, rfl⟩
         rw [hq] at htn ⊢
         have hHq := hid hq
         clear hq
         go_wp2
         go_roundg (tl.length - (i + 1))
         case measure => omega
         case rel =>
           refine ⟨i + 1, n + q, by omega, by go_num, by go_num, by omega, hid ?_, k2, hB2⟩
           exact tr_step (M := 65536) rfl (hH.out.1 hn6) hst2.out hHq.out
 · have hp : parts (.mk tk tneg td tnm tn tl tb) = [.mk tk tneg td tnm tn tl tb] := by simp [parts, hk]
   rw [hp] at hR
   have hR1 : R = 1 := by rw [← hR]; rfl
   subst hR1
   have e4 : (tk == 4) = false := by simp; omega
   have e6 : (tk == 6) = false := by simp; omega
   clear hR hp hk
   go_enter Tryz.func38, Tryz.ntmps38
   go_wp2
   go_ret
   exact ⟨rfl, hB⟩
end Go.Proofs.YtlojfmlaookpmaaGreatDoor
namespace Go.Proofs.YtlojfmlaookpmaaGreatDoor
open Go.ChangeShapes Go.WideShapes Go.ChangeAt Go.RowKit
theorem sameNum_w (va vb : Value) (Z : Int) (K : Nat) (w : World) (hK : K ≤ 1000000) (ha : IsC va Z K w) (hb : IsC vb Z K w) :
   Calls Tryz.prog 71 #[va, vb] w fun e w' => e = .returned (.bool true) ∧ Below w.heap.size w w' := by
 obtain ⟨oa, ca, rfl, hLa, hca, hka⟩ := ha
 obtain ⟨ob, cb, rfl, hLb, hcb, hkb⟩ := hb
 obtain ⟨bz, hbz⟩ : ∃ bz, decide (Z < 0) = bz := ⟨_, rfl⟩
 rw [hbz]
 generalize glim 4294967296 Z.natAbs = l at *
 clear hbz
 obtain ⟨kA, kB, hB0, hz0⟩ := boxes2 w (.bool bz) (.slice oa l.length ca) (.bool bz) (.slice ob l.length cb) 68 68
 have hbb : (bz != bz) = false := by cases bz <;> rfl
 have hll : ((l.length : Int) != (l.length : Int)) = false := by simp
 go_enter Tryz.func71, Tryz.ntmps71
 go_wp2
 generalize ((w.alloc (.cells #[.bool bz, .slice oa l.length ca] 68)).alloc (.cells #[.bool bz, .slice ob l.length cb] 68)) = W0 at *
 go_loopw [5] (fun iv wr => ∃ k : Nat, iv = .int .i64 (k : Int) ∧ k ≤ l.length ∧ Below W0.heap.size W0 wr) (fun iv _ => l.length - (intOf iv).toNat)
 case atStart => exact ⟨0, rfl, by omega, Below.refl _ _⟩
 case round =>
   obtain ⟨k, rfl, hk, hbw⟩ := hrel
   have hBw := below_and hB0 (Nat.le_refl _) hbw
   obtain ⟨f1, f2, f3, f4⟩ := id (kA.below hbw (by omega))
   obtain ⟨f5, f6, f7, f8⟩ := id (kB.below hbw (by omega))
   by_cases h1 : k < l.length
   · have h1z : (k : Int) < (l.length : Int) := by omega
     obtain ⟨x, hx⟩ : ∃ x, l[k]? = some x := ⟨l[k], by simp [h1]⟩
     obtain ⟨a, rfl, cx⟩ := (hLa.below hBw) k x hx
     obtain ⟨b, rfl, cy⟩ := (hLb.below hBw) k x hx
     go_wp2
     go_quiet (fail)
     go_wp2
     go_roundw
     case rel => exact ⟨k + 1, by go_num, by omega, below_drewNv hbw _⟩
     case measure => simp [intOf]; omega
   · have h1z : ¬ (k : Int) < (l.length : Int) := by omega
     go_wp2
     go_ret
     exact ⟨rfl, hBw⟩
set_option maxHeartbeats 1000000 in
theorem ofInt_w (n : Int) (w : World) (h0 : -9223372036854775808 ≤ n) (h1 : n < 9223372036854775808) :
   Calls Tryz.prog 65 #[.int .i64 n] w fun e w' => ∃ v', e = .returned v' ∧ IsC v' n 2 w' ∧ Below w.heap.size w w' := by
 obtain ⟨m, hm⟩ : ∃ m : Nat, n.natAbs = m := ⟨_, rfl⟩
 have hlo : IntKind.u32.wrap (m : Int) = ((m % 4294967296 : Nat) : Int) := by rw [IntKind.wrap_u32]; omega
 have hhi : IntKind.u32.wrap ((m : Int) / 4294967296) = ((m / 4294967296 : Nat) : Int) := by rw [IntKind.wrap_u32]; omega
 have hBx : Below w.heap.size w (w.alloc (.cells #[.bool false, .slice none 0 0] 68)) := (Below.refl _ w).alloc (Nat.le_refl _) _
 have hBy : Below w.heap.size w ((w.alloc (.cells #[.bool false, .slice none 0 0] 68)).alloc (.cells #[.int .u32 ((m % 4294967296 : Nat) : Int), .int .u32 ((m / 4294967296 : Nat) : Int)] 133)) := hBx.alloc (by simp) _
 have kC : Box w.heap.size (.bool false) (.slice none 0 0) ((w.alloc (.cells #[.bool false, .slice none 0 0] 68)).alloc (.cells #[.int .u32 ((m % 4294967296 : Nat) : Int), .int .u32 ((m / 4294967296 : Nat) : Int)] 133)) := (Box.new w _ _ _).alloc _ (by simp)
 have hL : Lies (some ⟨w.heap.size + 1, 0, none⟩) [m % 4294967296, m / 4294967296] ((w.alloc (.cells #[.bool false, .slice none 0 0] 68)).alloc (.cells #[.int .u32 ((m % 4294967296 : Nat) : Int), .int .u32 ((m / 4294967296 : Nat) : Int)] 133)) := by
   have := lies_pair (w.alloc (.cells #[.bool false, .slice none 0 0] 68)) (m % 4294967296) (m / 4294967296) 133
   simp only [World.size_alloc] at this
   exact this
 have hN : IsN (.agg #[.bool (decide (n < 0)), .slice (some ⟨w.heap.size + 1, 0, none⟩) 2 2]) n 2 ((w.alloc (.cells #[.bool false, .slice none 0 0] 68)).alloc (.cells #[.int .u32 ((m % 4294967296 : Nat) : Int), .int .u32 ((m / 4294967296 : Nat) : Int)] 133)) := by
   refine ⟨_, _, [m % 4294967296, m / 4294967296], 2, rfl, hL, by simp, ?_, ?_, by simp⟩
   · exact Lm.cons (by omega) (Lm.cons (by omega) (Lm.nil _))
   · have : gval 4294967296 [m % 4294967296, m / 4294967296] = m := by simp only [gval]; omega
     rw [this]; unfold sv
     by_cases hn : n < 0
     · simp only [hn, decide_true, if_true]; omega
     · simp only [hn, decide_false, Bool.false_eq_true, if_false]; omega
 generalize hg : m % 4294967296 = lo at *
 generalize hg2 : m / 4294967296 = hi at *
 have hz : ((w.alloc (.cells #[.bool false, .slice none 0 0] 68)).alloc (.cells #[.int .u32 (lo : Int), .int .u32 (hi : Int)] 133)).heap.size = w.heap.size + 2 := by simp
 by_cases hn : n < 0
 · have hd : decide (n < 0) = true := by simp [hn]
   rw [hd] at hN
   have w1 : IntKind.u64.wrap (-IntKind.u64.wrap n) = (m : Int) := by rw [IntKind.wrap_u64, IntKind.wrap_u64]; omega
   clear hm hg hg2 hd hL
   go_enter Tryz.func65, Tryz.ntmps65
   go_wp2_with fail
   generalize ((w.alloc (.cells #[.bool false, .slice none 0 0] 68)).alloc (.cells #[.int .u32 (lo : Int), .int .u32 (hi : Int)] 133)) = W0 at *
   refine (rnorm_w _ n 2 _ (by omega) hN).mono ?_
   rintro e w4 ⟨sl4, rfl, hF4, hk4, b4⟩
   have hC4 := hF4.isC hk4
   obtain ⟨o4, c4, rfl, L4, z4, _⟩ := hF4.parts
   have hB4 := below_and hBy (Nat.le_refl _) b4
   have kC4 := kC.below b4 (by omega)
   obtain ⟨e1, e2, e3, e4⟩ := id kC4
   go_wp2
   refine bodyPost_ret (v := .agg #[.bool (decide (n < 0)), .slice o4 (glim 4294967296 n.natAbs).length c4]) (by simp [results, Tryz.results65, go_sem, e1, e2, hn]) rfl ⟨_, rfl, ?_, ?_⟩
   · exact hC4.box kC4
   · exact (hB4.setCell (p := ⟨w.heap.size, 0, none⟩) (by simp) _).setCell (p := ⟨w.heap.size, 1, none⟩) (by simp) _
 · have hd : decide (n < 0) = false := by simp [hn]
   rw [hd] at hN
   have w1 : IntKind.u64.wrap n = (m : Int) := by rw [IntKind.wrap_u64]; omega
   clear hm hg hg2 hd hL
   go_enter Tryz.func65, Tryz.ntmps65
   go_wp2_with fail
   generalize ((w.alloc (.cells #[.bool false, .slice none 0 0] 68)).alloc (.cells #[.int .u32 (lo : Int), .int .u32 (hi : Int)] 133)) = W0 at *
   refine (rnorm_w _ n 2 _ (by omega) hN).mono ?_
   rintro e w4 ⟨sl4, rfl, hF4, hk4, b4⟩
   have hC4 := hF4.isC hk4
   obtain ⟨o4, c4, rfl, L4, z4, _⟩ := hF4.parts
   have hB4 := below_and hBy (Nat.le_refl _) b4
   have kC4 := kC.below b4 (by omega)
   obtain ⟨e1, e2, e3, e4⟩ := id kC4
   go_wp2
   refine bodyPost_ret (v := .agg #[.bool (decide (n < 0)), .slice o4 (glim 4294967296 n.natAbs).length c4]) (by simp [results, Tryz.results65, go_sem, e1, e2, hn]) rfl ⟨_, rfl, ?_, ?_⟩
   · exact hC4.box kC4
   · exact (hB4.setCell (p := ⟨w.heap.size, 0, none⟩) (by simp) _).setCell (p := ⟨w.heap.size, 1, none⟩) (by simp) _
open Go.Shelf
def intT (Z : Int) : Tm := .mk 0 (decide (Z < 0)) (glim 4294967296 Z.natAbs) noS 0 [] []
theorem tv_int {S B : Nat} {w w' : World} {Z : Int} {o : Option Addr} {c : Nat} (h : w.ownsRow B 133 1 (.slice o (glim 4294967296 Z.natAbs).length c) (glim 4294967296 Z.natAbs).length (lim (glim 4294967296 Z.natAbs))) (hS : S ≤ B) (hk : ∀ g, B ≤ g → g < w.heap.size → w'.heap[g]? = w.heap[g]?) :
   TV (Zw S w') w' (intT Z) (tmV 0 (decide (Z < 0)) (.slice o (glim 4294967296 Z.natAbs).length c) noS 0 nilS nilS) := by
 have hc := own_sl h
 obtain ⟨_, _, e, hc⟩ := hc
 simp only [Value.slice.injEq, true_and] at e
 obtain ⟨rfl, rfl⟩ := e
 unfold intT TV
 refine ⟨o, c, none, 0, none, 0, rfl, own_ls h hS (fun g hg => ?_), hc, lm_glim (by omega) _, LsB.nil _ _ _, by simp, by simp, by unfold TR; trivial⟩
 subst hg
 obtain ⟨cur, hq, hB, _⟩ := own_blk h
 exact hk g hB (zge.1 hq).1
theorem bx27 (w : World) (a0 a1 b0 b1 b2 b3 b4 b5 b6 : Value) (ta tb : TypeId) :
   Box w.heap.size a0 a1 ((w.alloc (.cells #[a0, a1] ta)).alloc (.cells #[b0, b1, b2, b3, b4, b5, b6] tb)) ∧ Bx (w.heap.size + 1) b0 b1 b2 b3 b4 b5 b6 ((w.alloc (.cells #[a0, a1] ta)).alloc (.cells #[b0, b1, b2, b3, b4, b5, b6] tb)) ∧ Below w.heap.size w ((w.alloc (.cells #[a0, a1] ta)).alloc (.cells #[b0, b1, b2, b3, b4, b5, b6] tb)) ∧ ((w.alloc (.cells #[a0, a1] ta)).alloc (.cells #[b0, b1, b2, b3, b4, b5, b6] tb)).heap.size = w.heap.size + 2 := by
 have h1 := Box.new w a0 a1 ta
 have h2 := Bx.new (w.alloc (.cells #[a0, a1] ta)) b0 b1 b2 b3 b4 b5 b6 tb
 rw [World.size_alloc] at h2
 exact ⟨h1.below ((Below.refl _ _).alloc (Nat.le_refl _) _) (by simp), h2, ((Below.refl _ w).alloc (Nat.le_refl _) _).alloc (by simp) _, by simp⟩
set_option maxHeartbeats 1000000 in
theorem Num_w (v : Value) (Z : Int) (K : Nat) (w : World) (hK : K ≤ 1000000) (h : IsN v Z K w) :
   Calls Tryz.prog 91 #[v] w fun e w' => ∃ v', e = .returned v' ∧ TV (Zw w.heap.size w') w' (intT Z) v' ∧ (glim 4294967296 Z.natAbs).length ≤ K ∧ Below w.heap.size w w' := by
 have hN : ∀ w', Below w.heap.size w w' → IsN v Z K w' := fun w' hb => h.below hb
 obtain ⟨neg, o, l, c, rfl, hL, hc, hm, hs, hk⟩ := h
 clear hL hc hm hs hk
 obtain ⟨kA, kB, hB0, hz0⟩ := bx27 w (.bool neg) (.slice o l.length c) (.int .i64 0) (.bool false) nilS (.string noS) (.int .i64 0) nilS nilS 117 27
 go_enter Tryz.func91, Tryz.ntmps91
 go_wp2_with fail
 generalize ((w.alloc (.cells #[.bool neg, .slice o l.length c] 117)).alloc (.cells #[.int .i64 0, .bool false, .slice none 0 0, .string { data := #[] }, .int .i64 0, .slice none 0 0, .slice none 0 0] 27)) = W0 at *
 refine (norm_w _ Z K _ hK (hN _ hB0)).mono ?_
 rintro e w1 ⟨sl, rfl, hF, hKK, b1⟩
 obtain ⟨o1, c1, rfl, _, _, _⟩ := hF.parts
 have hF' : w1.ownsRow (w.heap.size + 2) 133 1 (.slice o1 (glim 4294967296 Z.natAbs).length c1) (glim 4294967296 Z.natAbs).length (lim (glim 4294967296 Z.natAbs)) := own_mono (show w1.ownsRow W0.heap.size 133 1 _ _ _ from hF) (by omega)
 clear hF
 have hHF := hid hF'
 clear hF'
 have hB1 := below_and hB0 (by omega) b1
 have kA1 := kA.below b1 (by omega)
 have kB1 := kB.below b1
 have hz1 := b1.size
 clear hB0 kA kB b1 hN
 obtain ⟨f1, f2, f3, f4⟩ := id kA1
 have kA2 : Box w.heap.size (.bool (decide (Z < 0))) (.slice o1 (glim 4294967296 Z.natAbs).length c1) ((w1.setCell ⟨w.heap.size, 0, none⟩ (.bool (decide (Z < 0)))).setCell ⟨w.heap.size, 1, none⟩ (.slice o1 (glim 4294967296 Z.natAbs).length c1)) := kA1.put
 have ho2 : Only w.heap.size w1 ((w1.setCell ⟨w.heap.size, 0, none⟩ (.bool (decide (Z < 0)))).setCell ⟨w.heap.size, 1, none⟩ (.slice o1 (glim 4294967296 Z.natAbs).length c1)) := (only_set w1 w.heap.size 0 _).setCell 1 _
 have kB2 := kB1.only ho2 (by omega)
 have hB2 := hB1.trans (ho2.below (B := w.heap.size) (Nat.le_refl _))
 have hz2 := ho2.2.1
 go_upto_region 2 with fail
 clear f1 f2 f3 f4 kA1 kB1
 generalize hW2 : (w1.setCell ⟨w.heap.size, 0, none⟩ (.bool (decide (Z < 0)))).setCell ⟨w.heap.size, 1, none⟩ (.slice o1 (glim 4294967296 Z.natAbs).length c1) = w2 at *
 clear hW2
 obtain ⟨f1, f2, f3, f4⟩ := id kA2
 have hf := kB2.fr
 obtain ⟨g0, g1, g2, g3, g4, g5, g6⟩ := kB2.res
 obtain ⟨zb, hzb⟩ : ∃ zb, decide (Z < 0) = zb := ⟨_, rfl⟩
 have hHz := hid hzb
 rw [hzb] at f1 ⊢
 clear hzb
 have hput := kB2.put (b0 := .int .i64 0) (b1 := .bool zb) (b2 := .slice o1 (glim 4294967296 Z.natAbs).length c1) (b3 := .string noS) (b4 := .int .i64 0) (b5 := nilS) (b6 := nilS)
 have hon := only_put w2 (w.heap.size + 1) (.int .i64 0) (.bool zb) (.slice o1 (glim 4294967296 Z.natAbs).length c1) (.string noS) (.int .i64 0) nilS nilS
 obtain ⟨r0, r1, r2, r3, r4, r5, r6⟩ := hput.res
 have hfin : TV (Zw w.heap.size (((((((w2.setCell ⟨w.heap.size + 1, 0, none⟩ (.int .i64 0)).setCell ⟨w.heap.size + 1, 1, none⟩ (.bool zb)).setCell ⟨w.heap.size + 1, 2, none⟩ (.slice o1 (glim 4294967296 Z.natAbs).length c1)).setCell ⟨w.heap.size + 1, 3, none⟩ (.string noS)).setCell ⟨w.heap.size + 1, 4, none⟩ (.int .i64 0)).setCell ⟨w.heap.size + 1, 5, none⟩ nilS).setCell ⟨w.heap.size + 1, 6, none⟩ nilS)) (((((((w2.setCell ⟨w.heap.size + 1, 0, none⟩ (.int .i64 0)).setCell ⟨w.heap.size + 1, 1, none⟩ (.bool zb)).setCell ⟨w.heap.size + 1, 2, none⟩ (.slice o1 (glim 4294967296 Z.natAbs).length c1)).setCell ⟨w.heap.size + 1, 3, none⟩ (.string noS)).setCell ⟨w.heap.size + 1, 4, none⟩ (.int .i64 0)).setCell ⟨w.heap.size + 1, 5, none⟩ nilS).setCell ⟨w.heap.size + 1, 6, none⟩ nilS) (intT Z) (tmV 0 zb (.slice o1 (glim 4294967296 Z.natAbs).length c1) noS 0 nilS nilS) := by
   have := tv_int (S := w.heap.size) (w' := (((((((w2.setCell ⟨w.heap.size + 1, 0, none⟩ (.int .i64 0)).setCell ⟨w.heap.size + 1, 1, none⟩ (.bool zb)).setCell ⟨w.heap.size + 1, 2, none⟩ (.slice o1 (glim 4294967296 Z.natAbs).length c1)).setCell ⟨w.heap.size + 1, 3, none⟩ (.string noS)).setCell ⟨w.heap.size + 1, 4, none⟩ (.int .i64 0)).setCell ⟨w.heap.size + 1, 5, none⟩ nilS).setCell ⟨w.heap.size + 1, 6, none⟩ nilS)) hHF.out (by omega) (fun g hg hg2 => (hon.2.2 g (by omega)).trans (ho2.2.2 g (by omega)))
   rw [hHz.out] at this
   exact this
 have hBf := hB2.trans (hon.below (B := w.heap.size) (by omega))
 have hHf := hid hfin
 have hHk := hid hKK
 clear hfin hHF hon ho2 hB2 hB1 hKK
 go_wp2
 exact bodyPost_ret (v := tmV 0 zb (.slice o1 (glim 4294967296 Z.natAbs).length c1) noS 0 nilS nilS) (by simp [results, Tryz.results91, go_sem, r0, r1, r2, r3, r4, r5, r6]) rfl ⟨_, rfl, hHf.out, hHk.out, hBf⟩
theorem bx1 (w : World) (b0 b1 b2 b3 b4 b5 b6 : Value) (tb : TypeId) :
   Bx w.heap.size b0 b1 b2 b3 b4 b5 b6 (w.alloc (.cells #[b0, b1, b2, b3, b4, b5, b6] tb)) ∧ Below w.heap.size w (w.alloc (.cells #[b0, b1, b2, b3, b4, b5, b6] tb)) ∧ (w.alloc (.cells #[b0, b1, b2, b3, b4, b5, b6] tb)).heap.size = w.heap.size + 1 :=
 ⟨Bx.new w b0 b1 b2 b3 b4 b5 b6 tb, (Below.refl _ w).alloc (Nat.le_refl _) _, by simp⟩
def atomT (nm : ByteArray) : Tm := .mk 1 false [] nm 0 [] []
theorem tv_flat {Z : Nat → Prop} {w : World} (k : Int) (nm : ByteArray) (n : Int) : TV Z w (.mk k false [] nm n [] []) (tmV k false nilS nm n nilS nilS) := by
 unfold TV
 exact ⟨none, 0, none, 0, none, 0, rfl, Ls.nil _ _ _, by simp, Lm.nil _, LsB.nil _ _ _, by simp, by simp, by unfold TR; trivial⟩
theorem ok_flat (k : Int) {nm : ByteArray} (n : Int) (h : nm.size ≤ 1000000) : (Tm.mk k false [] nm n [] []).ok1 := ⟨by simp, h, by simp, by simp, Lm.nil _⟩
set_option maxHeartbeats 1000000 in
theorem Atom_w (nm : ByteArray) (w : World) (hn : nm.size ≤ 1000000) :
   Calls Tryz.prog 94 #[.string nm] w fun e w' => ∃ v', e = .returned v' ∧ TV (Zw w.heap.size w') w' (atomT nm) v' ∧ Below w.heap.size w w' := by
 obtain ⟨kX, hBX, hz0⟩ := bx1 w (.int .i64 0) (.bool false) nilS (.string noS) (.int .i64 0) nilS nilS 27
 go_enter Tryz.func94, Tryz.ntmps94
 go_wp2_with fail
 generalize (w.alloc (.cells #[.int .i64 0, .bool false, .slice none 0 0, .string { data := #[] }, .int .i64 0, .slice none 0 0, .slice none 0 0] 27)) = W0 at *
 refine (Copy_w (atomT nm) _ _ (by simp [atomT, parts]) (by simp only [atomT, parts]; intro p hp; simp at hp; subst hp; exact ok_flat _ _ hn) (tv_flat 1 nm 0)).mono ?_
 rintro e w2 ⟨v2, rfl, hV, b2⟩
 have hcp : cpT (atomT nm) = atomT nm := by simp [atomT, cpT, prT]
 rw [hcp] at hV
 clear hcp
 have hBX := below_and hBX (by omega) b2
 have kX := kX.below b2
 clear b2
 obtain ⟨k9, neg9, od9, ld9, cd9, nm9, n9, ol9, ll9, cl9, ob9, lb9, cb9, rfl⟩ := hV.form
 have hf9 := kX.fr
 obtain ⟨x0, x1, x2, x3, x4, x5, x6⟩ := kX.res
 have hput := kX.put (b0 := .int .i64 k9) (b1 := .bool neg9) (b2 := .slice od9 ld9 cd9) (b3 := .string nm9) (b4 := .int .i64 n9) (b5 := .slice ol9 ll9 cl9) (b6 := .slice ob9 lb9 cb9)
 have hon := only_put w2 w.heap.size (.int .i64 k9) (.bool neg9) (.slice od9 ld9 cd9) (.string nm9) (.int .i64 n9) (.slice ol9 ll9 cl9) (.slice ob9 lb9 cb9)
 obtain ⟨r0, r1, r2, r3, r4, r5, r6⟩ := hput.res
 have hfin := hid (zw_move (S' := w.heap.size) hV (fun k hk _ => hon.2.2 k (by omega)) (by omega))
 have hBf := hBX.trans (hon.below (B := w.heap.size) (by omega))
 clear hV hon kX hput hBX
 go_wp2
 exact bodyPost_ret (v := tmV k9 neg9 (.slice od9 ld9 cd9) nm9 n9 (.slice ol9 ll9 cl9) (.slice ob9 lb9 cb9)) (by simp [results, Tryz.results94, go_sem, r0, r1, r2, r3, r4, r5, r6]) rfl ⟨_, rfl, hfin.out, hBf⟩
def nilT : Tm := .mk 5 false [] noS 0 [] []
def consT (a b : Tm) : Tm := .mk 6 false [] noS 0 [a, b] []
theorem tr_two {Z : Nat → Prop} {w : World} {t t' : Tm} {k k' : Int} {neg neg' : Bool} {od od' : Option Addr} {ld cd ld' cd' : Nat} {nm nm' : ByteArray} {n n' : Int} {ol ol' : Option Addr} {ll cl ll' cl' : Nat} {ob ob' : Option Addr} {lb cb lb' cb' : Nat} {g : Nat}
   (h : TV Z w t (tmV k neg (.slice od ld cd) nm n (.slice ol ll cl) (.slice ob lb cb))) (h' : TV Z w t' (tmV k' neg' (.slice od' ld' cd') nm' n' (.slice ol' ll' cl') (.slice ob' lb' cb'))) {ty : TypeId}
   (hg : w.heap[g]? = some (.cells #[.int .i64 k, .bool neg, .slice od ld cd, .string nm, .int .i64 n, .slice ol ll cl, .slice ob lb cb, .int .i64 k', .bool neg', .slice od' ld' cd', .string nm', .int .i64 n', .slice ol' ll' cl', .slice ob' lb' cb'] ty (0, 0))) (hZ : Z g) :
   TR Z w [t, t'] (some ⟨g, 0, none⟩) := by
 have q : ∀ j, w.cell? ((⟨g, 0, none⟩ : Addr).add j) = (#[.int .i64 k, .bool neg, .slice od ld cd, .string nm, .int .i64 n, .slice ol ll cl, .slice ob lb cb, .int .i64 k', .bool neg', .slice od' ld' cd', .string nm', .int .i64 n', .slice ol' ll' cl', .slice ob' lb' cb'] : Array Value)[j]? := fun j => by
   rw [addr_add, Nat.zero_add]; simp [World.cell?, hg]
 have q7 : ∀ j, w.cell? (((⟨g, 0, none⟩ : Addr).add 7).add j) = (#[.int .i64 k, .bool neg, .slice od ld cd, .string nm, .int .i64 n, .slice ol ll cl, .slice ob lb cb, .int .i64 k', .bool neg', .slice od' ld' cd', .string nm', .int .i64 n', .slice ol' ll' cl', .slice ob' lb' cb'] : Array Value)[7 + j]? := fun j => by
   rw [add_add]; exact q _
 have q0 := q 0
 have q70 := q7 0
 rw [add_zero] at q0 q70
 unfold TR
 refine ⟨_, _, rfl, hZ, ⟨_, _, _, _, _, _, _, rfl, q0, q 1, q 2, q 3, q 4, q 5, q 6⟩, h, ?_⟩
 unfold TR
 exact ⟨_, _, rfl, by rw [block_add]; exact hZ, ⟨_, _, _, _, _, _, _, rfl, q70, q7 1, q7 2, q7 3, q7 4, q7 5, q7 6⟩, h', by unfold TR; trivial⟩
theorem drop_at {l : List Tm} {i : Nat} {t : Tm} (h : l[i]? = some t) : l.drop i = t :: l.drop (i + 1) := by
 obtain ⟨hi, he⟩ := List.getElem?_eq_some_iff.1 h
 rw [List.drop_eq_getElem_cons hi, he]
theorem parts_int (Z : Int) : parts (intT Z) = [intT Z] := by simp [intT, parts]
theorem ok_int {Z : Int} (h : (glim 4294967296 Z.natAbs).length ≤ 1000000) : (intT Z).ok1 := ⟨h, by decide, by simp, by simp, lm_glim (by omega) _⟩
theorem parts_atom (nm : ByteArray) : parts (atomT nm) = [atomT nm] := by simp [atomT, parts]
theorem parts_nil : parts nilT = [nilT] := by simp [nilT, parts]
theorem parts_cons (a b : Tm) : parts (consT a b) = consT a b :: (parts a ++ parts b) := by simp [consT, parts, partsL]
theorem ok_cons (a b : Tm) : (consT a b).ok1 := ⟨by simp, by decide, by simp, by simp, Lm.nil _⟩
theorem rnorm_c (v : Value) (Z : Int) (K : Nat) (w : World) (hK : K ≤ 1000000) (h : IsN v Z K w) :
   Calls Tryz.prog 67 #[v] w fun e w' => ∃ b o n c, e = .returned (.agg #[.bool b, .slice o n c]) ∧ IsC (.agg #[.bool b, .slice o n c]) Z K w' ∧ Below w.heap.size w w' := by
 refine (rnorm_w v Z K w hK h).mono ?_
 rintro e w' ⟨sl, rfl, hF, hKK, hb⟩
 obtain ⟨o1, c1, rfl, _, _, _⟩ := hF.parts
 exact ⟨_, _, _, _, rfl, hF.isC hKK, hb⟩
theorem sameNum_ne (na nb : Bool) (oa ob : Option Addr) (la lb ca cb : Nat) (w : World) (h : na ≠ nb ∨ la ≠ lb) :
   Calls Tryz.prog 71 #[.agg #[.bool na, .slice oa la ca], .agg #[.bool nb, .slice ob lb cb]] w fun e w' => e = .returned (.bool false) ∧ Below w.heap.size w w' := by
 obtain ⟨kA, kB, hB0, hz0⟩ := boxes2 w (.bool na) (.slice oa la ca) (.bool nb) (.slice ob lb cb) 68 68
 by_cases hb : na = nb
 · subst hb
   have hbb : (na != na) = false := by cases na <;> rfl
   have hl : la ≠ lb := h.resolve_left (fun e => e rfl)
   have hll : ((la : Int) != (lb : Int)) = true := by simp; omega
   clear h hl
   go_enter Tryz.func71, Tryz.ntmps71
   go_wp2
   all_goals (go_ret; exact ⟨rfl, hB0⟩)
 · have hbb : (na != nb) = true := by simpa using hb
   clear h
   go_enter Tryz.func71, Tryz.ntmps71
   go_wp2
   all_goals (go_ret; exact ⟨rfl, hB0⟩)
theorem sameNorm_w (neg : Bool) (d : List Nat) (od o : Option Addr) (cd c : Nat) (b : Bool) (n K : Nat) (w : World) (hK : K ≤ 1000000) (hm : Lm 4294967296 d) (hL : Lies od d w) (hd : d.length ≤ K) (hcd : d.length ≤ cd) (hC : IsC (.agg #[.bool b, .slice o n c]) (sv neg (gval 4294967296 d)) K w) :
   Calls Tryz.prog 71 #[.agg #[.bool neg, .slice od d.length cd], .agg #[.bool b, .slice o n c]] w fun e w' => e = .returned (.bool (normB neg d)) ∧ Below w.heap.size w w' := by
 have hnat : (sv neg (gval 4294967296 d)).natAbs = gval 4294967296 d := by unfold sv; cases neg <;> simp
 obtain ⟨hb, hn⟩ := hC.parts
 by_cases h : normB neg d = true
 · rw [h]
   unfold normB at h
   simp only [Bool.and_eq_true, beq_iff_eq] at h
   have hlen : (glim 4294967296 (sv neg (gval 4294967296 d)).natAbs).length = d.length := by omega
   have hgl : glim 4294967296 (sv neg (gval 4294967296 d)).natAbs = d := by
     obtain ⟨k, hk, hg⟩ := glim_is_take hm
     rw [hnat] at hlen ⊢
     rw [hg, List.length_take] at hlen
     rw [hg, List.take_of_length_le (by omega)]
   refine sameNum_w _ _ (sv neg (gval 4294967296 d)) K w hK ⟨od, cd, ?_, ?_, ?_, ?_⟩ hC
   · rw [hgl, h.1]
   · rw [hgl]; exact hL
   · rw [hgl]; exact hcd
   · rw [hgl]; exact hd
 · have hf : normB neg d = false := by simpa using h
   rw [hf]
   refine sameNum_ne _ _ _ _ _ _ _ _ w ?_
   unfold normB at h
   simp only [Bool.and_eq_true, beq_iff_eq, not_and] at h
   by_cases e : neg = b
   · right
     intro e2
     exact h (by rw [← hb, e]) (by rw [hn] at e2; omega)
   · left; exact e
abbrev MayC (k : Int) (neg : Bool) (od : Option Addr) (ld cd : Nat) (nm : ByteArray) (n : Int) (ol : Option Addr) (ll cl : Nat) (ob : Option Addr) (lb cb : Nat) (w : World) (r : Bool) : Prop :=
 Calls Tryz.prog 39 #[tmV k neg (.slice od ld cd) nm n (.slice ol ll cl) (.slice ob lb cb)] w fun e w' => e = .returned (.bool r) ∧ Below w.heap.size w w'
set_option maxHeartbeats 2000000 in
set_option maxRecDepth 8000 in
theorem bad1a (od : Option Addr) (cd : Nat) (ol : Option Addr) (cl : Nat) (ob : Option Addr) (cb : Nat) (w : World) (k : Int) (ld : Nat) (nm : ByteArray) (n : Int) (ll lb : Nat) (h0 : (k != 0) = true) : MayC k true od ld cd nm n ol ll cl ob lb cb w false := by
 go_enter Tryz.func39, Tryz.ntmps39
 simp only [List.append_eq, List.cons_append, List.nil_append]
 go_wp2
 go_ret
 exact ⟨rfl, (Below.refl _ w).alloc (Nat.le_refl _) _⟩
set_option maxHeartbeats 2000000 in
set_option maxRecDepth 8000 in
theorem bad1b (od : Option Addr) (cd : Nat) (ol : Option Addr) (cl : Nat) (ob : Option Addr) (cb : Nat) (w : World) (k : Int) (ld : Nat) (nm : ByteArray) (n : Int) (ll lb : Nat) (h0 : (k != 0) = true) (hd : (0 : Int) < (ld : Int)) : MayC k false od ld cd nm n ol ll cl ob lb cb w false := by
 go_enter Tryz.func39, Tryz.ntmps39
 simp only [List.append_eq, List.cons_append, List.nil_append]
 go_wp2
 go_ret
 exact ⟨rfl, (Below.refl _ w).alloc (Nat.le_refl _) _⟩
set_option maxHeartbeats 2000000 in
set_option maxRecDepth 8000 in
theorem bad2a (od : Option Addr) (cd : Nat) (ol : Option Addr) (cl : Nat) (ob : Option Addr) (cb : Nat) (w : World) (neg : Bool) (ld : Nat) (nm : ByteArray) (n : Int) (ll lb : Nat) (hq : nm.toList ≠ []) : MayC 0 neg od ld cd nm n ol ll cl ob lb cb w false := by
 go_enter Tryz.func39, Tryz.ntmps39
 simp only [List.append_eq, List.cons_append, List.nil_append]
 go_wp2
 go_ret
 exact ⟨rfl, (Below.refl _ w).alloc (Nat.le_refl _) _⟩
set_option maxHeartbeats 2000000 in
set_option maxRecDepth 8000 in
theorem bad2b (od : Option Addr) (cd : Nat) (ol : Option Addr) (cl : Nat) (ob : Option Addr) (cb : Nat) (w : World) (k : Int) (nm : ByteArray) (n : Int) (ll lb : Nat) (h0 : (k != 0) = true) (h1 : (k != 1) = true) (hq : nm.toList ≠ []) : MayC k false od 0 cd nm n ol ll cl ob lb cb w false := by
 go_enter Tryz.func39, Tryz.ntmps39
 simp only [List.append_eq, List.cons_append, List.nil_append]
 go_wp2
 go_ret
 exact ⟨rfl, (Below.refl _ w).alloc (Nat.le_refl _) _⟩
set_option maxHeartbeats 2000000 in
set_option maxRecDepth 8000 in
theorem bad3a (od : Option Addr) (cd : Nat) (ol : Option Addr) (cl : Nat) (ob : Option Addr) (cb : Nat) (w : World) (neg : Bool) (ld : Nat) (nm : ByteArray) (n : Int) (ll lb : Nat) (hn : nm.toList = []) (hz : (n != 0) = true) : MayC 0 neg od ld cd nm n ol ll cl ob lb cb w false := by
 go_enter Tryz.func39, Tryz.ntmps39
 simp only [List.append_eq, List.cons_append, List.nil_append]
 go_wp2
 go_ret
 exact ⟨rfl, (Below.refl _ w).alloc (Nat.le_refl _) _⟩
set_option maxHeartbeats 2000000 in
set_option maxRecDepth 8000 in
theorem bad3b (od : Option Addr) (cd : Nat) (ol : Option Addr) (cl : Nat) (ob : Option Addr) (cb : Nat) (w : World) (nm : ByteArray) (n : Int) (ll lb : Nat) (hz : (n != 0) = true) : MayC 1 false od 0 cd nm n ol ll cl ob lb cb w false := by
 go_enter Tryz.func39, Tryz.ntmps39
 simp only [List.append_eq, List.cons_append, List.nil_append]
 go_wp2
 go_ret
 exact ⟨rfl, (Below.refl _ w).alloc (Nat.le_refl _) _⟩
set_option maxHeartbeats 2000000 in
set_option maxRecDepth 8000 in
theorem bad3c (od : Option Addr) (cd : Nat) (ol : Option Addr) (cl : Nat) (ob : Option Addr) (cb : Nat) (w : World) (k : Int) (nm : ByteArray) (n : Int) (ll lb : Nat) (h0 : (k != 0) = true) (h1 : (k != 1) = true) (h2 : (k != 2) = true) (h3 : (k != 3) = true) (hn : nm.toList = []) (hz : (n != 0) = true) : MayC k false od 0 cd nm n ol ll cl ob lb cb w false := by
 go_enter Tryz.func39, Tryz.ntmps39
 simp only [List.append_eq, List.cons_append, List.nil_append]
 go_wp2
 go_ret
 exact ⟨rfl, (Below.refl _ w).alloc (Nat.le_refl _) _⟩
set_option maxHeartbeats 2000000 in
set_option maxRecDepth 8000 in
theorem bad4a (od : Option Addr) (cd : Nat) (ol : Option Addr) (cl : Nat) (ob : Option Addr) (cb : Nat) (w : World) (neg : Bool) (ld : Nat) (nm : ByteArray) (ll lb : Nat) (hn : nm.toList = []) (hl : (0 : Int) < (ll : Int)) : MayC 0 neg od ld cd nm 0 ol ll cl ob lb cb w false := by
 go_enter Tryz.func39, Tryz.ntmps39
 simp only [List.append_eq, List.cons_append, List.nil_append]
 go_wp2
 go_ret
 exact ⟨rfl, (Below.refl _ w).alloc (Nat.le_refl _) _⟩
set_option maxHeartbeats 2000000 in
set_option maxRecDepth 8000 in
theorem bad4b (od : Option Addr) (cd : Nat) (ol : Option Addr) (cl : Nat) (ob : Option Addr) (cb : Nat) (w : World) (nm : ByteArray) (ll lb : Nat) (hl : (0 : Int) < (ll : Int)) : MayC 1 false od 0 cd nm 0 ol ll cl ob lb cb w false := by
 go_enter Tryz.func39, Tryz.ntmps39
 simp only [List.append_eq, List.cons_append, List.nil_append]
 go_wp2
 go_ret
 exact ⟨rfl, (Below.refl _ w).alloc (Nat.le_refl _) _⟩
set_option maxHeartbeats 2000000 in
set_option maxRecDepth 8000 in
theorem bad4c (od : Option Addr) (cd : Nat) (ol : Option Addr) (cl : Nat) (ob : Option Addr) (cb : Nat) (w : World) (nm : ByteArray) (n : Int) (ll lb : Nat) (hn : nm.toList = []) (hl : (0 : Int) < (ll : Int)) : MayC 2 false od 0 cd nm n ol ll cl ob lb cb w false := by
 go_enter Tryz.func39, Tryz.ntmps39
 simp only [List.append_eq, List.cons_append, List.nil_append]
 go_wp2
 go_ret
 exact ⟨rfl, (Below.refl _ w).alloc (Nat.le_refl _) _⟩
set_option maxHeartbeats 2000000 in
set_option maxRecDepth 8000 in
theorem bad4d (od : Option Addr) (cd : Nat) (ol : Option Addr) (cl : Nat) (ob : Option Addr) (cb : Nat) (w : World) (nm : ByteArray) (n : Int) (ll lb : Nat) (hn : nm.toList = []) (hl : (0 : Int) < (ll : Int)) : MayC 3 false od 0 cd nm n ol ll cl ob lb cb w false := by
 go_enter Tryz.func39, Tryz.ntmps39
 simp only [List.append_eq, List.cons_append, List.nil_append]
 go_wp2
 go_ret
 exact ⟨rfl, (Below.refl _ w).alloc (Nat.le_refl _) _⟩
set_option maxHeartbeats 2000000 in
set_option maxRecDepth 8000 in
theorem bad4e (od : Option Addr) (cd : Nat) (ol : Option Addr) (cl : Nat) (ob : Option Addr) (cb : Nat) (w : World) (k : Int) (nm : ByteArray) (ll lb : Nat) (h0 : (k != 0) = true) (h1 : (k != 1) = true) (h2 : (k != 2) = true) (h3 : (k != 3) = true) (h4 : (k != 4) = true) (h6 : (k != 6) = true) (hn : nm.toList = []) (hl : (0 : Int) < (ll : Int)) : MayC k false od 0 cd nm 0 ol ll cl ob lb cb w false := by
 go_enter Tryz.func39, Tryz.ntmps39
 simp only [List.append_eq, List.cons_append, List.nil_append]
 go_wp2
 go_ret
 exact ⟨rfl, (Below.refl _ w).alloc (Nat.le_refl _) _⟩
set_option maxHeartbeats 2000000 in
set_option maxRecDepth 8000 in
theorem bad5a (od : Option Addr) (cd : Nat) (ol : Option Addr) (cl : Nat) (ob : Option Addr) (cb : Nat) (w : World) (neg : Bool) (ld : Nat) (nm : ByteArray) (lb : Nat) (hn : nm.toList = []) (hb : (0 : Int) < (lb : Int)) : MayC 0 neg od ld cd nm 0 ol 0 cl ob lb cb w false := by
 go_enter Tryz.func39, Tryz.ntmps39
 simp only [List.append_eq, List.cons_append, List.nil_append]
 go_wp2
 go_ret
 exact ⟨rfl, (Below.refl _ w).alloc (Nat.le_refl _) _⟩
set_option maxHeartbeats 2000000 in
set_option maxRecDepth 8000 in
theorem bad5b (od : Option Addr) (cd : Nat) (ol : Option Addr) (cl : Nat) (ob : Option Addr) (cb : Nat) (w : World) (nm : ByteArray) (lb : Nat) (hb : (0 : Int) < (lb : Int)) : MayC 1 false od 0 cd nm 0 ol 0 cl ob lb cb w false := by
 go_enter Tryz.func39, Tryz.ntmps39
 simp only [List.append_eq, List.cons_append, List.nil_append]
 go_wp2
 go_ret
 exact ⟨rfl, (Below.refl _ w).alloc (Nat.le_refl _) _⟩
set_option maxHeartbeats 2000000 in
set_option maxRecDepth 8000 in
theorem bad5c (od : Option Addr) (cd : Nat) (ol : Option Addr) (cl : Nat) (ob : Option Addr) (cb : Nat) (w : World) (nm : ByteArray) (n : Int) (lb : Nat) (hn : nm.toList = []) (hb : (0 : Int) < (lb : Int)) : MayC 2 false od 0 cd nm n ol 0 cl ob lb cb w false := by
 go_enter Tryz.func39, Tryz.ntmps39
 simp only [List.append_eq, List.cons_append, List.nil_append]
 go_wp2
 go_ret
 exact ⟨rfl, (Below.refl _ w).alloc (Nat.le_refl _) _⟩
set_option maxHeartbeats 2000000 in
set_option maxRecDepth 8000 in
theorem bad5d (od : Option Addr) (cd : Nat) (ol : Option Addr) (cl : Nat) (ob : Option Addr) (cb : Nat) (w : World) (nm : ByteArray) (n : Int) (lb : Nat) (hn : nm.toList = []) (hb : (0 : Int) < (lb : Int)) : MayC 3 false od 0 cd nm n ol 0 cl ob lb cb w false := by
 go_enter Tryz.func39, Tryz.ntmps39
 simp only [List.append_eq, List.cons_append, List.nil_append]
 go_wp2
 go_ret
 exact ⟨rfl, (Below.refl _ w).alloc (Nat.le_refl _) _⟩
set_option maxHeartbeats 2000000 in
set_option maxRecDepth 8000 in
theorem bad5e (od : Option Addr) (cd : Nat) (ol : Option Addr) (cl : Nat) (ob : Option Addr) (cb : Nat) (w : World) (nm : ByteArray) (ll lb : Nat) (hn : nm.toList = []) (hb : (0 : Int) < (lb : Int)) : MayC 4 false od 0 cd nm 0 ol ll cl ob lb cb w false := by
 go_enter Tryz.func39, Tryz.ntmps39
 simp only [List.append_eq, List.cons_append, List.nil_append]
 go_wp2
 go_ret
 exact ⟨rfl, (Below.refl _ w).alloc (Nat.le_refl _) _⟩
set_option maxHeartbeats 2000000 in
set_option maxRecDepth 8000 in
theorem bad5f (od : Option Addr) (cd : Nat) (ol : Option Addr) (cl : Nat) (ob : Option Addr) (cb : Nat) (w : World) (nm : ByteArray) (ll lb : Nat) (hn : nm.toList = []) (hb : (0 : Int) < (lb : Int)) : MayC 6 false od 0 cd nm 0 ol ll cl ob lb cb w false := by
 go_enter Tryz.func39, Tryz.ntmps39
 simp only [List.append_eq, List.cons_append, List.nil_append]
 go_wp2
 go_ret
 exact ⟨rfl, (Below.refl _ w).alloc (Nat.le_refl _) _⟩
set_option maxHeartbeats 2000000 in
set_option maxRecDepth 8000 in
theorem bad5g (od : Option Addr) (cd : Nat) (ol : Option Addr) (cl : Nat) (ob : Option Addr) (cb : Nat) (w : World) (k : Int) (nm : ByteArray) (lb : Nat) (h0 : (k != 0) = true) (h1 : (k != 1) = true) (h2 : (k != 2) = true) (h3 : (k != 3) = true) (h4 : (k != 4) = true) (h6 : (k != 6) = true) (h7 : (k != 7) = true) (hn : nm.toList = []) (hb : (0 : Int) < (lb : Int)) : MayC k false od 0 cd nm 0 ol 0 cl ob lb cb w false := by
 go_enter Tryz.func39, Tryz.ntmps39
 simp only [List.append_eq, List.cons_append, List.nil_append]
 go_wp2
 go_ret
 exact ⟨rfl, (Below.refl _ w).alloc (Nat.le_refl _) _⟩
end Go.Proofs.YtlojfmlaookpmaaGreatDoor
