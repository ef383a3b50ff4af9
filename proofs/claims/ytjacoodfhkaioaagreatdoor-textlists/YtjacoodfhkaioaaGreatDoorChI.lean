/- Texts of mine, one behind the other: TermCopies, TermMake, TermOpen, TermRoomL, TermRTree, BigSame, TermInt. -/
import Derived.Test.YtjacoodfhkaioaaGreatDoorChH
import Derived.Test.YtjacoodfhkaioaaGreatDoorChD
import Derived.Lib.SmallJoins
import Derived.ChangeSlices
import Derived.ChangeArms
namespace Go.Proofs.YtjacoodfhkaioaaGreatDoor
open Go.ChangeShapes Go.WideShapes Go.ChangeAt Go.RowKit Go.Shelf
set_option linter.unusedSimpArgs false
set_option linter.unusedVariables false
set_option maxRecDepth 2000
set_option maxHeartbeats 4000000 in
set_option maxRecDepth 4000 in
theorem copies_w (ls : List Tm) (o : Option Addr) (c : Nat) (w : World) (hne : ls ≠ []) (hlen : (partsL ls).length ≤ 500000) (hl : ls.length ≤ 500000) (hok : ∀ p ∈ partsL ls, p.ok1) (hT : TR (Low w) w ls o) :
    Calls Tryz.prog 127 #[.slice o ls.length c] w fun e w' => ∃ g' c', e = .returned (.slice (some ⟨g', 0, none⟩) ls.length c') ∧ TR (Zw w.heap.size w') w' (cpL ls) (some ⟨g', 0, none⟩) ∧ ls.length ≤ c' ∧ Below w.heap.size w w' := by
  obtain ⟨xs, hRC, hLc⟩ := hT.rc
  obtain ⟨iT, hT1, hT2, hT3, hT4⟩ := info_parts infoT
  obtain ⟨i0, hi, hyy0, hyy1, hyy2⟩ := info_parts infoR
  obtain ⟨vA, w1, hr1, hA1, b1⟩ := ap_run 24 27 iT _ 7 112 Tryz.underlying24 hT1 hT2 hT3 hT4 rfl (by decide) w o c ls.length xs hRC.len hRC.one (by omega) (by omega) hLc
  have hRC1 := hRC.zs (fun k hk => b1.block k hk)
  obtain ⟨oA, cA, rfl, hcA⟩ := own_sl hA1
  obtain ⟨gA, rfl⟩ : ∃ gA, oA = some ⟨gA, 0, none⟩ := by
    obtain ⟨h1, ⟨h2, h3⟩ | ⟨g', cap', cur, h2, _⟩⟩ := hA1
    · exact absurd (List.eq_nil_of_length_eq_zero h3) hne
    · simp only [Value.slice.injEq, true_and] at h2
      exact ⟨g', h2.1⟩
  clear hT hRC hLc
  have hxs := hid (show ∃ x, x = xs from ⟨_, rfl⟩)
  go_enter Tryz.func127, Tryz.ntmps127
  go_wp2_with (at_builtin; refine wpList_append_run rfl _ _ 24 rfl _ _ _ _ rfl rfl hr1 ?_)
  clear hr1
  obtain ⟨G, hG⟩ : ∃ G : World → Prop, G = fun w' => TR (Zw w.heap.size w') w' (cpL ls) (some ⟨gA, 0, none⟩) := ⟨_, rfl⟩
  have hCI : CI w.heap.size w1 (fun _ => False) [⟨gA, cA, ls⟩] G := by
    obtain ⟨cur, hgA, hBA, _, _⟩ := own_blk hA1
    refine ⟨by simp, fun r hr => ?_, fun k hk => hk.elim, fun w' _ hd => ?_, fun r hr => ?_⟩
    · simp at hr; subst hr
      exact ⟨hBA, xs, hRC1, hA1⟩
    · rw [hG]; exact (hd ⟨gA, cA, ls⟩ (by simp)).tr
    · simp at hr; subst hr; exact hok
  have hHG := hid hG
  clear hG
  have hW0 := World.ownsRow_lit (e := 24) (size := 1) (base := w.heap.size) w1 #[.slice (some ⟨gA, 0, none⟩) ls.length cA] 1 b1.size (by simp [maxLen]) (by simp)
  have hCI1 := hCI.kept (Kept.of_alloc (F := fun _ => False) w1 (.cells #[.slice (some ⟨gA, 0, none⟩) ls.length cA] 24)) (fun _ h => h.elim) (fun _ _ => id) (fun _ _ => id) b1.size
  have hB1 := b1.alloc b1.size (.cells #[.slice (some ⟨gA, 0, none⟩) ls.length cA] 24)
  clear hCI hA1 hRC1 hxs hok
  generalize (w1.alloc (.cells #[.slice (some ⟨gA, 0, none⟩) ls.length cA] 24)) = W0 at *
  go_loopg [4] (mu [⟨gA, cA, ls⟩]) (fun t v4 wr => ∃ (st : List Pr) (Fp : Nat → Prop), t = mu st ∧ CI w.heap.size wr Fp st G ∧ mu st ≤ 500001 ∧ wr.ownsRow w.heap.size 24 1 v4 st.length (st.map Pr.val).reverse ∧ Below w.heap.size w wr)
  case atStart => exact ⟨[⟨gA, cA, ls⟩], _, rfl, hCI1, by simp only [mu]; omega, by simpa [Pr.val] using hW0, hB1⟩
  case round =>
    obtain ⟨st, Fp, rfl, hI, hmu, hOw, hBw⟩ := hrel
    clear hCI1 hW0 hB1
    cases st with
    | nil =>
      obtain ⟨o5, c5, rfl, _⟩ := own_shape hOw
      have hfin : G wr := hI.wo wr (fun _ _ => rfl) (fun r hr => by simp at hr)
      have hHf := hid hfin
      clear hOw hI hfin
      go_wp2
      go_ret
      have := hHf.out
      rw [hHG.out] at this
      exact ⟨gA, cA, rfl, this, hcA, hBw⟩
    | cons r st =>
      obtain ⟨g, rc, l⟩ := r
      obtain ⟨o5, c5, rfl, ho5⟩ := own_shape hOw
      obtain ⟨g5, rfl⟩ := ho5 (by simp)
      clear ho5
      simp only [List.map_cons, List.reverse_cons, List.length_cons] at hOw
      obtain ⟨hOw', hcell, hBg, hgl, hc5⟩ := own_take1 hOw
      clear hOw
      unfold Pr.val at hcell
      simp only at hcell
      obtain ⟨hgS, x0, hRC0, hOR0⟩ := hI.pend ⟨g, rc, l⟩ (by simp)
      have hJ : CJ w.heap.size wr Fp st g rc l 0 [] x0 G := by
        refine ⟨hI.nd, fun r hr => hI.pend r (List.mem_cons_of_mem _ hr), fun k hk => ?_, fun hf => ?_, hI.wo.pop hgS, fun r hr => hI.ok r (List.mem_cons_of_mem _ hr), hI.ok ⟨g, rc, l⟩ (by simp), by simp, hRC0, hOR0, hgS⟩
        · obtain ⟨h1, h2, h3⟩ := hI.fp k hk
          exact ⟨h1, h2, fun r hr => h3 r (List.mem_cons_of_mem _ hr)⟩
        · exact (hI.fp g hf).2.2 ⟨g, rc, l⟩ (by simp) rfl
      clear hRC0 hOR0 hI
      have hmu' : (partsL l).length + 1 + mu st ≤ 500001 := by simpa [mu] using hmu
      have hsl : st.length ≤ 500001 := by have := mu_len st; omega
      have hll : l.length ≤ 500001 := by have := partsL_len l; omega
      clear hmu
      go_wp2_with fail
      have hMb : Hid (∃ M, M = (partsL l).length + mu st) := hid ⟨_, rfl⟩
      obtain ⟨M, hM⟩ : ∃ M, M = (partsL l).length + mu st := ⟨_, rfl⟩
      have hHM := hid hM
      clear hM hMb
      have hMl : M ≤ 500000 := by have := hHM.out; omega
      clear hmu'
      go_loopg [4, 28] l.length (fun t v4 iv wx => ∃ (i : Nat) (st' : List Pr) (Fp' : Nat → Prop) (pre xs : List Value), t + i = l.length ∧ iv = .int .i64 (i : Int) ∧ CJ w.heap.size wx Fp' st' g rc l i pre xs G ∧ (partsL (l.drop i)).length + mu st' ≤ M ∧ wx.ownsRow w.heap.size 24 1 v4 st'.length (st'.map Pr.val).reverse ∧ Below w.heap.size w wx)
      case atStart => exact ⟨0, st, Fp, [], x0, by omega, rfl, hJ, by rw [List.drop_zero, ← hHM.out]; exact Nat.le_refl _, hOw', hBw⟩
      case round =>
        obtain ⟨i, st', Fp', pre, xs, hti, rfl, hJ, hmu, hOw2, hBw2⟩ := hrel
        clear hOw' hBw hcell hgl hBg hc5
        obtain ⟨o4, c4, rfl, _⟩ := own_shape hOw2
        by_cases hil : i = l.length
        · subst hil
          have hx0 : xs = [] := by
            have := hJ.rc
            rw [List.drop_length] at this
            exact this
          subst hx0
          have hI : CI w.heap.size wr (fun k => Fp' k ∨ k = g) st' G := by
            have hro := rowB_of hJ.own
            rw [List.append_nil] at hro
            have hwi := hJ.wi
            rw [List.drop_length] at hwi
            refine ⟨(List.nodup_cons.1 hJ.nd).2, hJ.pend, fun k hk => ?_, hwi.fin hro, hJ.ok⟩
            rcases hk with hk | rfl
            · exact hJ.fp k hk
            · obtain ⟨cur, hg, hS, _, _⟩ := own_blk hJ.own
              exact ⟨hS, ⟨cur, 27, hg, by decide⟩, fun r hr e => (List.nodup_cons.1 hJ.nd).1 (List.mem_map.2 ⟨r, hr, e⟩)⟩
          have hmu2 : mu st' ≤ M := by omega
          clear hmu hJ
          go_wp2
          go_roundg (mu st')
          case measure => have := hHM.out; simp only [mu]; omega
          case rel => exact ⟨st', _, rfl, hI, by omega, hOw2, hBw2⟩
        · have hil' : i < l.length := by omega
          obtain ⟨t, ht⟩ : ∃ t, l[i]? = some t := ⟨l[i], by simp [hil']⟩
          have hdrop : l.drop i = t :: l.drop (i + 1) := by
            rw [List.drop_eq_getElem_cons hil']
            rw [List.getElem?_eq_getElem hil'] at ht
            injection ht with ht; rw [ht]
          have hrc := hJ.rc
          rw [hdrop] at hrc
          obtain ⟨tk, tneg, tod, tld, tcd, tnm, tn, tol, tll, tcl, tob, tlb, tcb, ys, hTV, rfl, hRCr⟩ := hrc
          have hHd := hid hdrop
          clear hdrop ht
          have hii : ((i : Nat) : Int) < ((l.length : Nat) : Int) := by omega
          have hpl := hJ.pl
          obtain ⟨y0, y1, y2, y3, y4, y5, y6⟩ := own_cells7 hJ.own hpl
          have kA := Bx.new wr (.int .i64 tk) (.bool tneg) (.slice tod tld tcd) (.string tnm) (.int .i64 tn) (.slice tol tll tcl) (.slice tob tlb tcb) 27
          have hJ1 := hJ.kept (Kept.of_alloc (F := fun _ => False) wr (.cells #[.int .i64 tk, .bool tneg, .slice tod tld tcd, .string tnm, .int .i64 tn, .slice tol tll tcl, .slice tob tlb tcb] 27)) (fun _ h => h.elim) (fun _ _ => id) (fun _ _ => id) id hBw2.size
          have hO1 := own_below hOw2 ((Below.refl _ wr).alloc (Nat.le_refl _) (.cells #[.int .i64 tk, .bool tneg, .slice tod tld tcd, .string tnm, .int .i64 tn, .slice tol tll tcl, .slice tob tlb tcb] 27))
          have hB1 := hBw2.alloc hBw2.size (.cells #[.int .i64 tk, .bool tneg, .slice tod tld tcd, .string tnm, .int .i64 tn, .slice tol tll tcl, .slice tob tlb tcb] 27)
          have hz1 : (wr.alloc (.cells #[.int .i64 tk, .bool tneg, .slice tod tld tcd, .string tnm, .int .i64 tn, .slice tol tll tcl, .slice tob tlb tcb] 27)).heap.size = wr.heap.size + 1 := by simp
          have hTV1 : TV (fun k => k < w.heap.size) (wr.alloc (.cells #[.int .i64 tk, .bool tneg, .slice tod tld tcd, .string tnm, .int .i64 tn, .slice tol tll tcl, .slice tob tlb tcb] 27)) t _ := TV.zs (fun k hk => ((Below.refl wr.heap.size wr).alloc (Nat.le_refl _) _).block k (Nat.lt_of_lt_of_le hk hBw2.size)) _ _ hTV
          clear hJ hOw2 hRCr hTV
          have hokt : t.ok1 := hJ1.okl t (by rw [hHd.out]; simp [partsL, parts_eq])
          go_wp2_with fail
          clear y0 y1 y2 y3 y4 y5 y6
          generalize (wr.alloc (.cells #[.int .i64 tk, .bool tneg, .slice tod tld tcd, .string tnm, .int .i64 tn, .slice tol tll tcl, .slice tob tlb tcb] 27)) = w2 at *
          refine (detached_w w.heap.size t _ _ hB1.size hokt hTV1).mono ?_
          rintro e w3 ⟨v3, rfl, hD3, b3⟩
          have hJ3 := hJ1.kept (Kept.of_below (F := fun _ => False) b3) (fun _ h => h.elim) (fun _ _ => id) (fun _ _ => id) id hB1.size
          have hO3 := own_below hO1 b3
          have hB3 := below_and hB1 (by omega) b3
          have hgB : g < w2.heap.size := by obtain ⟨cur, hg, _⟩ := own_blk hJ1.own; exact (Array.getElem?_eq_some_iff.1 hg).1
          have hrB : Hid (∀ r ∈ st', r.g < w2.heap.size) := hid fun r hr => by obtain ⟨cur, hg⟩ := (hJ1.pend r hr).blk; exact (Array.getElem?_eq_some_iff.1 hg).1
          have hfB : Hid (∀ k, Fp' k → k < w2.heap.size) := hid fun k hk => by obtain ⟨_, ⟨c, t, hc, _⟩, _⟩ := hJ1.fp k hk; exact (Array.getElem?_eq_some_iff.1 hc).1
          have hoB : Hid (∀ k, (Value.slice o4 st'.length c4).ownBlock = some k → w.heap.size ≤ k ∧ k < w2.heap.size) := hid hO1.lt
          clear hJ1 hO1 hTV1 kA
          obtain ⟨dk, dneg, oD, lD, cD, dnm, dn, oL, lL, cL, oB, lB, cB, rfl⟩ := hD3.form
          obtain ⟨y0, y1, y2, y3, y4, y5, y6⟩ := own_cells7 hJ3.own hpl
          have hfr := own_fr hJ3.own
          have hS3 := hB3.size
          unfold tmV
          go_upto_region 11 with fail
          have hO4 := own_put7 (b0 := .int .i64 dk) (b1 := .bool dneg) (b2 := .slice oD lD cD) (b3 := .string dnm) (b4 := .int .i64 dn) (b5 := .slice oL lL cL) (b6 := .slice oB lB cB) hJ3.own hpl
          have hon := only_put7 w3 g (i * 7) (.int .i64 dk) (.bool dneg) (.slice oD lD cD) (.string dnm) (.int .i64 dn) (.slice oL lL cL) (.slice oB lB cB)
          have hkp : Kept (fun k => k = g) w3 (((((((w3.setCell ⟨g, i * 7, none⟩ (.int .i64 dk)).setCell ⟨g, i * 7 + 1, none⟩ (.bool dneg)).setCell ⟨g, i * 7 + 2, none⟩ (.slice oD lD cD)).setCell ⟨g, i * 7 + 3, none⟩ (.string dnm)).setCell ⟨g, i * 7 + 4, none⟩ (.int .i64 dn)).setCell ⟨g, i * 7 + 5, none⟩ (.slice oL lL cL)).setCell ⟨g, i * 7 + 6, none⟩ (.slice oB lB cB)) := ⟨hon.1.os, hon.1.tape, hon.1.output, hon.1.size, fun k hk hn => hon.2.2 k hn⟩
          have hB4 := hB3.trans (hon.below (B := w.heap.size) hJ3.gS)
          clear y0 y1 y2 y3 y4 y5 y6 hfr hon
          generalize (((((((w3.setCell ⟨g, i * 7, none⟩ (.int .i64 dk)).setCell ⟨g, i * 7 + 1, none⟩ (.bool dneg)).setCell ⟨g, i * 7 + 2, none⟩ (.slice oD lD cD)).setCell ⟨g, i * 7 + 3, none⟩ (.string dnm)).setCell ⟨g, i * 7 + 4, none⟩ (.int .i64 dn)).setCell ⟨g, i * 7 + 5, none⟩ (.slice oL lL cL)).setCell ⟨g, i * 7 + 6, none⟩ (.slice oB lB cB)) = w4 at *
          obtain ⟨y0, y1, y2, y3, y4, y5, y6⟩ := own_cells7 hO4 hpl
          have hgr : w3.grownBy w4 (some g) := ⟨hkp.os, hkp.tape, hkp.output, hkp.size, fun k hk hne => hkp.block k hk (fun e => hne (by rw [e]))⟩
          obtain ⟨curg, hgw3, _⟩ := own_blk hJ3.own
          have hwn : ¬ (Value.slice o4 st'.length c4).ownBlock = some g := wait_ne hO3 hgw3 (by decide)
          have hOw4 := hO3.kept hgr (.inr hwn)
          have hmuS := hid (show (partsL (l.drop i)).length = 1 + (partsL t.kids).length + (partsL (l.drop (i + 1))).length by rw [hHd.out]; simp only [partsL, parts_eq, List.length_append, List.length_cons]; omega)
          have hnr : ∀ r ∈ st', r.g ≠ g := fun r hr e => (List.nodup_cons.1 hJ3.nd).1 (List.mem_map.2 ⟨r, hr, e⟩)
          have hfin := cj_step (M := fun k => k = g) (wF := w4) hJ3 hHd.out hD3 hB1.size hgB hrB.out hfB.out hkp (fun k hk => by rw [hk]; exact ⟨hJ3.gS, hgB⟩) hnr (fun k hf e => hJ3.fpg (e ▸ hf)) hS3 (by simpa using hO4)
          obtain ⟨hlL, hc0, _⟩ := hfin
          by_cases hk0 : t.kids = []
          · have hJ5 := hc0 hk0
            have hlL0 : lL = 0 := by rw [hlL, hk0]; rfl
            subst hlL0
            have hmu5 : (partsL (l.drop (i + 1))).length + mu st' ≤ M := by have := hmuS.out; omega
            clear hlL hc0 hnr hmu hJ3 hO3 hgr hwn hkp hD3
            have hHk := hid hk0
            clear hk0
            go_wp2
            go_roundg (l.length - (i + 1))
            case measure => omega
            case rel => exact ⟨i + 1, st', _, _, ys, by omega, by go_num, hJ5, hmu5, hOw4, hB4⟩
          · have hkl : 0 < t.kids.length := List.length_pos_iff.2 hk0
            have hlp : (0 : Int) < (lL : Int) := by rw [hlL]; omega
            have hHO := hid (hOw4.alloc (.cells #[.slice oL lL cL] 24))
            have hS4 := hB4.size
            have hsl4 : st'.length + 1 ≤ 500001 := by have := mu_len st'; have := hmuS.out; omega
            clear hc0
            have hHk := hid hk0
            have hHL := hid hlL
            clear hk0 hlL
            go_wp2_with (at_builtin; refine wpList_append_own _ rfl _ _ 110 rfl w.heap.size 24 i0 (.slice none 0 0) 1 24 Tryz.underlying110 hi hyy0 hyy1 hyy2 rfl (by decide) _ _ _ rfl hHO.out ⟨w4.heap.size, 0, none⟩ 1 1 [.slice oL lL cL] rfl ?c1 ?c2 ?c3 ?c4 ?c5 ?c6 ?_)
            case c1 => rfl
            case c2 =>
              intro j u hj
              cases j with
              | zero =>
                simp only [List.getElem?_cons_zero, Option.some.injEq] at hj
                subst hj
                rw [add_zero, World.cell?_alloc_mark]; rfl
              | succ j => simp at hj
            case c3 => intro u hu; simp at hu; subst hu; rfl
            case c4 => unfold maxLen; omega
            case c5 => omega
            case c6 => simp; omega
            intro v6 w6 hown hgrow hnil
            have hk6 : Kept (fun k => k = g ∨ (Value.slice o4 st'.length c4).ownBlock = some k) w3 w6 := ((hkp.mono (fun k hk => .inl hk)).trans (Kept.of_alloc w4 _)).trans (Kept.of_grown hgrow (fun k hk => .inr hk))
            have hgu : w6.heap[g]? = w4.heap[g]? := by
              have h1 : (w4.alloc (.cells #[.slice oL lL cL] 24)).heap[g]? = w4.heap[g]? := ((Below.refl w4.heap.size w4).alloc (Nat.le_refl _) _).block g (Nat.lt_of_lt_of_le (Array.getElem?_eq_some_iff.1 hgw3).1 hkp.size)
              rw [← h1]
              exact hgrow.block g (by have := (Array.getElem?_eq_some_iff.1 hgw3).1; have := hkp.size; simp; omega) (fun e => hwn e.symm)
            have hO6 := own_same hO4 hgu
            have hfin := cj_step (wF := w6) hJ3 hHd.out hD3 hB1.size hgB hrB.out hfB.out hk6 (fun k hk => by
                rcases hk with rfl | hk
                · exact ⟨hJ3.gS, hgB⟩
                · exact hoB.out k hk) (fun r hr hm => by
                rcases hm with hm | hm
                · exact hnr r hr hm
                · obtain ⟨cur, hc⟩ := (hJ3.pend r hr).blk
                  exact wait_ne hO3 hc (by decide) hm) (fun k hf hm => by
                rcases hm with rfl | hm
                · exact hJ3.fpg hf
                · obtain ⟨_, ⟨c, t, hc, ht⟩, _⟩ := hJ3.fp k hf
                  exact wait_ne hO3 hc ht hm) hS3 (by simpa using hO6)
            obtain ⟨_, _, hc1⟩ := hfin
            obtain ⟨gL, hoL, hJ5⟩ := hc1 hHk.out
            have hB6 : Below w.heap.size w w6 := (hB4.alloc hS4 _).trans (show Below w.heap.size _ w6 from ⟨hgrow.os, hgrow.tape, hgrow.output, hgrow.size, fun k hk => hgrow.block k (by simp; omega) (fun e => by have := hoB.out k e.symm; omega)⟩)
            have hmu5 : (partsL (l.drop (i + 1))).length + mu (⟨gL, cL, t.kids⟩ :: st') ≤ M := by have := hmuS.out; simp only [mu]; omega
            have hOw6 : w6.ownsRow w.heap.size 24 1 v6 (Pr.mk gL cL t.kids :: st').length ((Pr.mk gL cL t.kids :: st').map Pr.val).reverse := by
              have hll' := hHL.out
              subst hoL
              subst hll'
              simpa [Pr.val] using hown
            clear hown hgrow hnil hk6 hgu hO6 hc1 hJ3 hO3 hgr hwn hkp hD3 hHO hnr hOw4 hO4 y0 y1 y2 y3 y4 y5 y6
            go_wp2
            go_roundg (l.length - (i + 1))
            case measure => omega
            case rel => exact ⟨i + 1, _, _, _, ys, by omega, by go_num, hJ5, hmu5, hOw6, hB6⟩
end Go.Proofs.YtjacoodfhkaioaaGreatDoor
namespace Go.Proofs.YtjacoodfhkaioaaGreatDoor
open Go.ChangeShapes Go.WideShapes Go.ChangeAt Go.RowKit Go.Shelf
set_option linter.unusedSimpArgs false
set_option linter.unusedVariables false
set_option maxRecDepth 2000
/-- a result in the block g -/
theorem Bx.res {g : Nat} {a0 a1 a2 a3 a4 a5 a6 : Value} {w : World} (h : Bx g a0 a1 a2 a3 a4 a5 a6 w) : w.cell? ⟨g, 0, none⟩ = some a0 ∧ w.cell? ⟨g, 1, none⟩ = some a1 ∧ w.cell? ⟨g, 2, none⟩ = some a2 ∧ w.cell? ⟨g, 3, none⟩ = some a3 ∧ w.cell? ⟨g, 4, none⟩ = some a4 ∧ w.cell? ⟨g, 5, none⟩ = some a5 ∧ w.cell? ⟨g, 6, none⟩ = some a6 := ⟨h.c0, h.c1, h.c2, h.c3, h.c4, h.c5, h.c6⟩
theorem zw_move {S S' : Nat} {w w' : World} {t : Tm} {v : Value} (h : TV (Zw S w) w t v) (hb : ∀ k, S ≤ k → k < w.heap.size → w'.heap[k]? = w.heap[k]?) (hS : S' ≤ S) : TV (Zw S' w') w' t v := by
  have h1 : TV (fun k => Zw S w k ∧ k < w.heap.size) w t v := TV.mono (fun k hk hz => ⟨hz, hk⟩) _ _ h
  have h2 := TV.zs (w' := w') (fun k hk => hb k hk.1.1 hk.2) _ _ h1
  refine TV.mono (fun k _ hz => ⟨Nat.le_trans hS hz.1.1, fun j => ?_⟩) _ _ h2
  have := World.frozen?_of_block (a := ⟨k, j, none⟩) (hb k hz.1.1 hz.2)
  exact this.trans (hz.1.2 j)
theorem zw_moveR {S S' : Nat} {w w' : World} {l : List Tm} {o : Option Addr} (h : TR (Zw S w) w l o) (hb : ∀ k, S ≤ k → k < w.heap.size → w'.heap[k]? = w.heap[k]?) (hS : S' ≤ S) : TR (Zw S' w') w' l o := by
  have h1 : TR (fun k => Zw S w k ∧ k < w.heap.size) w l o := TR.mono (fun k hk hz => ⟨hz, hk⟩) _ _ h
  have h2 := TR.zs (w' := w') (fun k hk => hb k hk.1.1 hk.2) _ _ h1
  refine TR.mono (fun k _ hz => ⟨Nat.le_trans hS hz.1.1, fun j => ?_⟩) _ _ h2
  have := World.frozen?_of_block (a := ⟨k, j, none⟩) (hb k hz.1.1 hz.2)
  exact this.trans (hz.1.2 j)
theorem tv_low {Z : Nat → Prop} {w : World} {t : Tm} {v : Value} (h : TV Z w t v) : TV (Low w) w t v := TV.mono (fun k hk _ => hk) _ _ h
theorem tv_below {w w' : World} {t : Tm} {v : Value} (h : TV (Low w) w t v) (hb : Below w.heap.size w w') : TV (Low w') w' t v := tv_low (TV.zs (fun k hk => hb.block k hk) _ _ h)
theorem tr_low {Z : Nat → Prop} {w : World} {l : List Tm} {o : Option Addr} (h : TR Z w l o) : TR (Low w) w l o := TR.mono (fun k hk _ => hk) _ _ h
theorem tr_below {w w' : World} {l : List Tm} {o : Option Addr} (h : TR (Low w) w l o) (hb : Below w.heap.size w w') : TR (Low w') w' l o := tr_low (TR.zs (fun k hk => hb.block k hk) _ _ h)
/-- one term in a row of one -/
theorem tr_one {w : World} {t : Tm} {k : Int} {neg : Bool} {od : Option Addr} {ld cd : Nat} {nm : ByteArray} {n : Int} {ol : Option Addr} {ll cl : Nat} {ob : Option Addr} {lb cb : Nat} {ty : TypeId} (h : TV (Low w) w t (tmV k neg (.slice od ld cd) nm n (.slice ol ll cl) (.slice ob lb cb))) :
    TR (Low (w.alloc (.cells #[.int .i64 k, .bool neg, .slice od ld cd, .string nm, .int .i64 n, .slice ol ll cl, .slice ob lb cb] ty))) (w.alloc (.cells #[.int .i64 k, .bool neg, .slice od ld cd, .string nm, .int .i64 n, .slice ol ll cl, .slice ob lb cb] ty)) [t] (some ⟨w.heap.size, 0, none⟩) := by
  have hb := (Below.refl w.heap.size w).alloc (Nat.le_refl _) (.cells #[.int .i64 k, .bool neg, .slice od ld cd, .string nm, .int .i64 n, .slice ol ll cl, .slice ob lb cb] ty)
  have kx := Bx.new w (.int .i64 k) (.bool neg) (.slice od ld cd) (.string nm) (.int .i64 n) (.slice ol ll cl) (.slice ob lb cb) ty
  unfold TR
  exact ⟨_, _, rfl, kx.lt, ⟨_, _, _, _, _, _, _, rfl, kx.c0, by rw [addr_add]; exact kx.c1, by rw [addr_add]; exact kx.c2, by rw [addr_add]; exact kx.c3, by rw [addr_add]; exact kx.c4, by rw [addr_add]; exact kx.c5, by rw [addr_add]; exact kx.c6⟩, tv_below h hb, by unfold TR; trivial⟩
set_option maxHeartbeats 1000000 in
theorem Copy_w (T : Tm) (v : Value) (w : World) (hlen : (parts T).length ≤ 500000) (hok : ∀ p ∈ parts T, p.ok1) (hT : TV (Low w) w T v) :
    Calls Tryz.prog 98 #[v] w fun e w' => ∃ v', e = .returned v' ∧ TV (Zw w.heap.size w') w' (cpT T) v' ∧ Below w.heap.size w w' := by
  obtain ⟨k, neg, od, ld, cd, nm, n, ol, ll, cl, ob, lb, cb, rfl⟩ := hT.form
  obtain ⟨kA, kB, hB0, hz0⟩ := bx2 w (.int .i64 k) (.bool neg) (.slice od ld cd) (.string nm) (.int .i64 n) (.slice ol ll cl) (.slice ob lb cb) (.int .i64 0) (.bool false) nilS (.string noS) (.int .i64 0) nilS nilS 27 27
  go_enter Tryz.func98, Tryz.ntmps98
  go_wp2_with fail
  generalize hW : ((w.alloc (.cells #[.int .i64 k, .bool neg, .slice od ld cd, .string nm, .int .i64 n, .slice ol ll cl, .slice ob lb cb] 27)).alloc (.cells #[.int .i64 0, .bool false, .slice none 0 0, .string { data := #[] }, .int .i64 0, .slice none 0 0, .slice none 0 0] 27)) = W0 at *
  clear hW
  have hT1 := tr_one (ty := 27) (tv_below hT hB0)
  have hB1 := hB0.alloc (by omega) (.cells #[.int .i64 k, .bool neg, .slice od ld cd, .string nm, .int .i64 n, .slice ol ll cl, .slice ob lb cb] 27)
  have kB1 := kB.below ((Below.refl _ W0).alloc (Nat.le_refl _) (.cells #[.int .i64 k, .bool neg, .slice od ld cd, .string nm, .int .i64 n, .slice ol ll cl, .slice ob lb cb] 27))
  have hz1 : (W0.alloc (.cells #[.int .i64 k, .bool neg, .slice od ld cd, .string nm, .int .i64 n, .slice ol ll cl, .slice ob lb cb] 27)).heap.size = w.heap.size + 3 := by simp [hz0]
  rw [hz0] at hT1
  generalize (W0.alloc (.cells #[.int .i64 k, .bool neg, .slice od ld cd, .string nm, .int .i64 n, .slice ol ll cl, .slice ob lb cb] 27)) = W1 at *
  refine (copies_w [T] _ _ _ (by simp) (by simpa [partsL] using hlen) (by simp) (by simpa [partsL] using hok) hT1).mono ?_
  rintro e w2 ⟨g', c', rfl, hR, _, b2⟩
  simp only [cpL] at hR
  unfold TR at hR
  obtain ⟨a, v2, ha, hZ, hA, hV, _⟩ := hR
  injection ha with ha
  subst ha
  obtain ⟨k2, neg2, od2, ld2, cd2, nm2, n2, ol2, ll2, cl2, ob2, lb2, cb2, rfl⟩ := hV.form
  obtain ⟨x0, x1, x2, x3, x4, x5, x6⟩ := hA.tm
  simp only [Nat.zero_add] at x1 x2 x3 x4 x5 x6
  have kB2 := kB1.below b2
  have hB2 := below_and hB1 (by omega) b2
  have hf := kB2.fr
  obtain ⟨f0, f1, f2, f3, f4, f5, f6, _⟩ := id kB2
  have hput := kB2.put (b0 := .int .i64 k2) (b1 := .bool neg2) (b2 := .slice od2 ld2 cd2) (b3 := .string nm2) (b4 := .int .i64 n2) (b5 := .slice ol2 ll2 cl2) (b6 := .slice ob2 lb2 cb2)
  have hon := only_put w2 (w.heap.size + 1) (.int .i64 k2) (.bool neg2) (.slice od2 ld2 cd2) (.string nm2) (.int .i64 n2) (.slice ol2 ll2 cl2) (.slice ob2 lb2 cb2)
  obtain ⟨r0, r1, r2, r3, r4, r5, r6⟩ := hput.res
  go_wp2
  refine bodyPost_ret (v := tmV k2 neg2 (.slice od2 ld2 cd2) nm2 n2 (.slice ol2 ll2 cl2) (.slice ob2 lb2 cb2)) (by simp [results, Tryz.results98, go_sem, r0, r1, r2, r3, r4, r5, r6]) rfl ⟨_, rfl, zw_move hV (fun k hk _ => hon.2.2 k (by omega)) (by omega), hB2.trans (hon.below (B := w.heap.size) (by omega))⟩
end Go.Proofs.YtjacoodfhkaioaaGreatDoor
namespace Go.Proofs.YtjacoodfhkaioaaGreatDoor
open Go.ChangeShapes Go.WideShapes Go.ChangeAt Go.ChangeMaps Go.RowKit
set_option linter.unusedSimpArgs false
set_option linter.unusedVariables false
set_option maxRecDepth 2000
theorem seven : Tryz.prog.cellsOf 27 = 7 := by kernel_rfl
theorem c8 : Tryz.prog.cellsOf 5 = 1 := by kernel_rfl
/-- integers in a row, opened -/
theorem open_row {H : Type} {enc : TypeId × Value → H} {w : World} {fuel : Nat} {t e : TypeId} {kd : IntKind} {v : Value} {x : DataW H × List MemPlace} (ht : Tryz.prog.underlying t = some (.slice e)) (he : Tryz.prog.underlying e = some (.int kd)) (hc : Tryz.prog.cellsOf e = 1) (h : DataW.trod enc Tryz.prog w 0 (fun _ => true) true fuel t [v] = some x) :
    ∃ (o : Option Addr) (zs : List Int) (c : Nat), v = .slice o zs.length c ∧ zs.length ≤ c ∧ (∀ (j : Nat) (z : Int), zs[j]? = some z → (∃ a, o = some a ∧ w.cell? (a.add j) = some (.int kd z)) ∧ (Lit.int kd z).wf = true) := by
  rcases open_ints ht he hc h with ⟨e1, _⟩ | ⟨a, len, cap, zs, e1, _, hlc, hcm, hzl, _, hcell, hwf⟩
  · simp only [List.cons.injEq, and_true] at e1
    subst e1
    exact ⟨none, [], 0, rfl, by simp, fun j z hz => by simp at hz⟩
  · simp only [List.cons.injEq, and_true] at e1
    subst e1
    simp only [if_true] at hzl
    have hll : (zs.take len).length = len := by rw [List.length_take]; omega
    refine ⟨some a, zs.take len, cap, by rw [hll], by omega, fun j z hz => ?_⟩
    rw [List.getElem?_take] at hz
    split at hz
    · have hjl : j < zs.length := (List.getElem?_eq_some_iff.1 hz).1
      refine ⟨⟨a, rfl, ?_⟩, hwf z (List.mem_of_getElem? hz)⟩
      rw [hcell j hjl]
      have : zs.getD j 0 = z := by simp [List.getD, hz]
      rw [this]
    · simp at hz
theorem row_nat {w : World} {o : Option Addr} {kd : IntKind} {B : Nat} {zs : List Int} (h : ∀ (j : Nat) (z : Int), zs[j]? = some z → (∃ a, o = some a ∧ w.cell? (a.add j) = some (.int kd z)) ∧ (Lit.int kd z).wf = true) (hw : ∀ z, (Lit.int kd z).wf = true → 0 ≤ z ∧ z < (B : Int)) :
    Ls (Low w) o ((zs.map Int.toNat).map fun (x : Nat) => Value.int kd (x : Int)) w ∧ Lm B (zs.map Int.toNat) := by
  refine ⟨fun j u hu => ?_, fun x hx => ?_⟩
  · simp only [List.getElem?_map] at hu
    cases hz : zs[j]? with
    | none => rw [hz] at hu; simp at hu
    | some z =>
      rw [hz] at hu
      simp only [Option.map_some, Option.some.injEq] at hu
      obtain ⟨⟨a, ha, hc⟩, hwf⟩ := h j z hz
      have := hw z hwf
      refine ⟨a, ha, by have := World.block_lt_of_cell? _ _ hc; rwa [block_add] at this, ?_⟩
      rw [hc, ← hu]
      congr 2
      omega
  · obtain ⟨z, hz, rfl⟩ := List.mem_map.1 hx
    obtain ⟨j, hj⟩ := List.getElem?_of_mem hz
    have := hw z (h j z hj).2
    omega
theorem wf32 (z : Int) (h : (Lit.int .u32 z).wf = true) : 0 ≤ z ∧ z < ((4294967296 : Nat) : Int) := by
  simp [Lit.wf, IntKind.min, IntKind.max, IntKind.bits, IntKind.signed] at h; omega
theorem wf8 (z : Int) (h : (Lit.int .u8 z).wf = true) : 0 ≤ z ∧ z < ((256 : Nat) : Int) := by
  simp [Lit.wf, IntKind.min, IntKind.max, IntKind.bits, IntKind.signed] at h; omega
theorem rows_of {w : World} (len : Nat) : ∀ (a : Addr), (∀ i, i < len → ∃ T v, At7 (a.add (i * 7)) v w ∧ TV (Low w) w T v) → ∃ l : List Tm, l.length = len ∧ TR (Low w) w l (some a) := by
  induction len with
  | zero => intro a _; exact ⟨[], rfl, by unfold TR; trivial⟩
  | succ n ih =>
    intro a h
    obtain ⟨T, v, hA, hT⟩ := h 0 (by omega)
    rw [Nat.zero_mul, add_zero] at hA
    obtain ⟨l, hl, hR⟩ := ih (a.add 7) (fun i hi => by
      obtain ⟨T, v, hA, hT⟩ := h (i + 1) (by omega)
      refine ⟨T, v, ?_, hT⟩
      rw [add_add]
      rw [show (i + 1) * 7 = 7 + i * 7 by omega] at hA
      exact hA)
    refine ⟨T :: l, by simp [hl], ?_⟩
    unfold TR
    exact ⟨a, v, rfl, hA.lt, hA, hT, hR⟩
theorem list7 {cs : List Value} (h : cs.length = 7) : ∃ c0 c1 c2 c3 c4 c5 c6, cs = [c0, c1, c2, c3, c4, c5, c6] := by
  match cs, h with
  | [c0, c1, c2, c3, c4, c5, c6], _ => exact ⟨c0, c1, c2, c3, c4, c5, c6, rfl⟩
theorem q1 : Tryz.prog.cellsOf 3 = 1 := by kernel_rfl
theorem q2 : Tryz.prog.cellsOf 4 = 1 := by kernel_rfl
theorem q3 : Tryz.prog.cellsOf 23 = 1 := by kernel_rfl
theorem q4 : Tryz.prog.cellsOf 9 = 1 := by kernel_rfl
theorem q5 : Tryz.prog.cellsOf 24 = 1 := by kernel_rfl
theorem q6 : Tryz.prog.cellsOf 25 = 1 := by kernel_rfl
theorem open_cells {H : Type} {enc : TypeId × Value → H} {w : World} : ∀ (fuel : Nat) (cs : List Value) (x : DataW H × List MemPlace), DataW.trod enc Tryz.prog w 0 (fun _ => true) true fuel 27 cs = some x →
    ∃ (T : Tm) (k : Int) (neg : Bool) (od : Option Addr) (ld cd : Nat) (nm : ByteArray) (n : Int) (ol : Option Addr) (ll cl : Nat) (ob : Option Addr) (lb cb : Nat), cs = [.int .i64 k, .bool neg, .slice od ld cd, .string nm, .int .i64 n, .slice ol ll cl, .slice ob lb cb] ∧ TV (Low w) w T (tmV k neg (.slice od ld cd) nm n (.slice ol ll cl) (.slice ob lb cb)) := by
  intro fuel
  induction fuel using Nat.strongRecOn with
  | _ fuel ih =>
    intro cs x h
    obtain ⟨xs, n, hfu, hx, hl, hlen, hf⟩ := DataW.trod_struct (fs := _) Tryz.underlying27 h
    rw [seven] at hl
    obtain ⟨c0, c1, c2, c3, c4, c5, c6, rfl⟩ := list7 hl
    have hlen7 : xs.length = 7 := hlen
    match xs, hlen7 with
    | [y0, y1, y2, y3, y4, y5, y6], _ =>
    have g0 : DataW.trod enc Tryz.prog w 0 (fun _ => true) true n 3 [c0] = some y0 := by have := hf 0 _ rfl; simpa [q1] using this
    have g1 : DataW.trod enc Tryz.prog w 0 (fun _ => true) true n 4 [c1] = some y1 := by have := hf 1 _ rfl; simpa [q2] using this
    have g2 : DataW.trod enc Tryz.prog w 0 (fun _ => true) true n 23 [c2] = some y2 := by have := hf 2 _ rfl; simpa [q3] using this
    have g3 : DataW.trod enc Tryz.prog w 0 (fun _ => true) true n 9 [c3] = some y3 := by have := hf 3 _ rfl; simpa [q4] using this
    have g4 : DataW.trod enc Tryz.prog w 0 (fun _ => true) true n 3 [c4] = some y4 := by have := hf 4 _ rfl; simpa [q1] using this
    have g5 : DataW.trod enc Tryz.prog w 0 (fun _ => true) true n 24 [c5] = some y5 := by have := hf 5 _ rfl; simpa [q5] using this
    have g6 : DataW.trod enc Tryz.prog w 0 (fun _ => true) true n 25 [c6] = some y6 := by have := hf 6 _ rfl; simpa [q6] using this
    clear hf hx
    obtain ⟨k, e0, _, _⟩ := DataW.trod_int Tryz.underlying3 g0
    obtain ⟨neg, e1, _⟩ := DataW.trod_bool Tryz.underlying4 g1
    obtain ⟨nm, e3, _, _⟩ := DataW.trod_string Tryz.underlying9 g3
    obtain ⟨n', e4, _, _⟩ := DataW.trod_int Tryz.underlying3 g4
    obtain ⟨od, zd, cd, e2, hcd, hzd⟩ := open_row Tryz.underlying23 Tryz.underlying145 one34 g2
    obtain ⟨ob, zb, cb, e6, hcb, hzb⟩ := open_row Tryz.underlying25 Tryz.underlying5 c8 g6
    obtain ⟨hLd, hMd⟩ := row_nat hzd wf32
    obtain ⟨hLb, hMb⟩ := row_nat hzb wf8
    simp only [List.cons.injEq, and_true] at e0 e1 e3 e4
    subst e0 e1 e2 e3 e4 e6
    have hL : ∃ (l : List Tm) (ol : Option Addr) (cl : Nat), c5 = .slice ol l.length cl ∧ l.length ≤ cl ∧ TR (Low w) w l ol := by
      rcases DataW.trod_slice Tryz.underlying24 g5 with ⟨e5, _⟩ | ⟨a, len, cap, elems, rest, m, hm, e5, _, _, hlc, _, hel, hall, _⟩
      · simp only [List.cons.injEq, and_true] at e5
        exact ⟨[], none, 0, e5, by simp, by unfold TR; trivial⟩
      · simp only [List.cons.injEq, and_true] at e5
        rw [seven] at hall
        obtain ⟨l, hll, hR⟩ := rows_of (w := w) len a (fun i hi => by
          have h1 := hall i hi
          rw [List.getElem?_eq_getElem (by omega)] at h1
          cases hc : w.cells? 0 (a.add (i * 7)) 7 with
          | none => rw [hc] at h1; simp at h1
          | some cs' =>
            rw [hc] at h1
            simp only [Option.bind_some] at h1
            obtain ⟨T, k', neg', od', ld', cd', nm', n'', ol', ll', cl', ob', lb', cb', rfl, hT⟩ := ih m (by omega) cs' _ h1
            obtain ⟨_, _, hcell⟩ := World.cells?_some hc
            have h0 := hcell 0 (by omega)
            rw [add_zero] at h0
            exact ⟨T, _, ⟨_, _, _, _, _, _, _, rfl, h0, hcell 1 (by omega), hcell 2 (by omega), hcell 3 (by omega), hcell 4 (by omega), hcell 5 (by omega), hcell 6 (by omega)⟩, hT⟩)
        exact ⟨l, some a, cap, by rw [hll]; exact e5, by omega, hR⟩
    obtain ⟨l, ol, cl, rfl, hcl, hR⟩ := hL
    refine ⟨.mk k neg (zd.map Int.toNat) nm n' l (zb.map Int.toNat), k, neg, od, zd.length, cd, nm, n', ol, l.length, cl, ob, zb.length, cb, rfl, ?_⟩
    unfold TV
    exact ⟨od, cd, ol, cl, ob, cb, by simp, hLd, by simpa using hcd, hMd, ⟨hLb, hMb⟩, by simpa using hcb, hcl, hR⟩
theorem open_term {H : Type} {enc : TypeId × Value → H} {base : Nat} {w : World} {v : Value} {d : DataW H} {p : List MemPlace} (o0 : Value.okWide Tryz.prog w Reach.any base 27 v) (h0 : DataW.Trod enc Tryz.prog w 0 (fun _ => true) true 27 v d p) : ∃ T, TV (Low w) w T v := by
  obtain ⟨fuel, hf⟩ := h0
  obtain ⟨cs, rfl, hsz⟩ := okWide_struct Tryz.underlying27 o0
  obtain ⟨T, k, neg, od, ld, cd, nm, n, ol, ll, cl, ob, lb, cb, e, hT⟩ := open_cells fuel _ _ hf
  refine ⟨T, ?_⟩
  have : cs = #[.int .i64 k, .bool neg, .slice od ld cd, .string nm, .int .i64 n, .slice ol ll cl, .slice ob lb cb] := by
    have h2 : (Value.agg cs).cells = cs := rfl
    rw [h2] at e
    exact Array.toList_inj.1 e
  subst this
  exact hT
end Go.Proofs.YtjacoodfhkaioaaGreatDoor
namespace Go.Proofs.YtjacoodfhkaioaaGreatDoor
open Go.ChangeShapes Go.WideShapes Go.ChangeAt Go.RowKit Go.Shelf
set_option linter.unusedSimpArgs false
set_option linter.unusedVariables false
set_option maxRecDepth 2000
mutual
def tsz : Tm → Nat
  | .mk _ _ _ _ _ l _ => 1 + tszL l
def tszL : List Tm → Nat
  | [] => 0
  | t :: l => tsz t + tszL l
end
theorem tsz_mem : ∀ {l : List Tm} {i : Nat} {t : Tm}, l[i]? = some t → tsz t ≤ tszL l
  | [], i, t, h => by simp at h
  | x :: l, 0, t, h => by simp at h; subst h; simp only [tszL]; omega
  | x :: l, i + 1, t, h => by
    have := tsz_mem (l := l) (i := i) (t := t) (by simpa using h)
    simp only [tszL]; omega
/-- the i-th term of a row -/
theorem TR.get {w w' : World} {l : List Tm} {o : Option Addr} {i : Nat} {t : Tm} (h : TR (Low w) w l o) (ht : l[i]? = some t) (hb : Below w.heap.size w w') :
    ∃ a k neg od ld cd nm n ol ll cl ob lb cb, o = some a ∧ TV (Low w') w' t (tmV k neg (.slice od ld cd) nm n (.slice ol ll cl) (.slice ob lb cb)) ∧ w'.cell? (a.add (i * 7)) = some (.int .i64 k) ∧ w'.cell? ⟨(a.add (i * 7)).block, (a.add (i * 7)).off + 1, none⟩ = some (.bool neg) ∧ w'.cell? ⟨(a.add (i * 7)).block, (a.add (i * 7)).off + 2, none⟩ = some (.slice od ld cd) ∧ w'.cell? ⟨(a.add (i * 7)).block, (a.add (i * 7)).off + 3, none⟩ = some (.string nm) ∧ w'.cell? ⟨(a.add (i * 7)).block, (a.add (i * 7)).off + 4, none⟩ = some (.int .i64 n) ∧ w'.cell? ⟨(a.add (i * 7)).block, (a.add (i * 7)).off + 5, none⟩ = some (.slice ol ll cl) ∧ w'.cell? ⟨(a.add (i * 7)).block, (a.add (i * 7)).off + 6, none⟩ = some (.slice ob lb cb) := by
  obtain ⟨a, rfl⟩ : ∃ a, o = some a := by
    cases l with
    | nil => simp at ht
    | cons q qs =>
      unfold TR at h
      obtain ⟨a, _, ha, _⟩ := h
      exact ⟨a, ha⟩
  obtain ⟨vt, hZ, hA, hTv⟩ := TR.at _ _ i t h ht
  rw [Nat.mul_comm] at hA
  have hA' := hA.zs (Z := Low w) (by rw [block_add]; exact hZ) (fun k hk => hb.block k hk)
  have hTv' := tv_below hTv hb
  obtain ⟨k', neg', od', ld', cd', nm', n', ol', ll', cl', ob', lb', cb', rfl⟩ := hTv.form
  exact ⟨a, k', neg', od', ld', cd', nm', n', ol', ll', cl', ob', lb', cb', rfl, hTv', hA'.tm⟩
mutual
def roomB (most : Int) : Int → Tm → Bool
  | dp, .mk _ _ d nm _ l b => decide (0 ≤ dp) && (decide ((l.length : Int) ≤ most) && (decide ((b.length : Int) ≤ 5000) && (decide ((d.length : Int) ≤ 100) && (decide ((nm.size : Int) ≤ 1100) && roomsB most (dp - 1) l))))
def roomsB (most : Int) : Int → List Tm → Bool
  | _, [] => true
  | dp, t :: l => roomB most dp t && roomsB most dp l
end
theorem roomsB_all (most dp : Int) : ∀ l : List Tm, roomsB most dp l = l.all (roomB most dp)
  | [] => by simp [roomsB]
  | t :: l => by simp [roomsB, roomsB_all most dp l]
set_option maxHeartbeats 2000000 in
set_option maxRecDepth 4000 in
theorem Room_w (most : Int) (hm : most ≤ 1000000) : ∀ (N : Nat) (T : Tm) (v : Value) (dp : Int) (w : World), tsz T ≤ N → -1 ≤ dp → dp ≤ 1000 → TV (Low w) w T v →
    Calls Tryz.prog 12 #[v, .int .i64 dp, .int .i64 most] w fun e w' => e = .returned (.bool (roomB most dp T)) ∧ Below w.heap.size w w' := by
  intro N
  induction N with
  | zero => intro T v dp w h; cases T; simp only [tsz] at h; omega
  | succ N ih =>
  intro T v dp w hN hd0 hd1 hT
  cases T with | mk tk tneg td tnm tn tl tb =>
  unfold TV at hT
  obtain ⟨tod, tcd, tol, tcl, tob, tcb, rfl, _, _, _, _, _, htl, htR⟩ := hT
  have hB : Below w.heap.size w (w.alloc (.cells #[.int .i64 tk, .bool tneg, .slice tod td.length tcd, .string tnm, .int .i64 tn, .slice tol tl.length tcl, .slice tob tb.length tcb] 27)) := (Below.refl _ w).alloc (Nat.le_refl _) _
  have kA := Bx.new w (.int .i64 tk) (.bool tneg) (.slice tod td.length tcd) (.string tnm) (.int .i64 tn) (.slice tol tl.length tcl) (.slice tob tb.length tcb) 27
  have hIH := hid ih
  clear ih
  obtain ⟨R, hR⟩ : ∃ R, roomB most dp (.mk tk tneg td tnm tn tl tb) = R := ⟨_, rfl⟩
  rw [hR]
  unfold roomB at hR
  have hHR := hid hR
  clear hR
  by_cases c1 : dp < 0
  · have hRf : R = false := by rw [← hHR.out, decide_eq_false (by omega), Bool.false_and]
    subst hRf
    go_enter Tryz.func12, Tryz.ntmps12
    go_wp2
    go_ret
    exact ⟨rfl, hB⟩
  by_cases c2 : most < (tl.length : Int)
  · have hRf : R = false := by rw [← hHR.out, decide_eq_false (p := (tl.length : Int) ≤ most) (by omega), Bool.false_and, Bool.and_false]
    subst hRf
    go_enter Tryz.func12, Tryz.ntmps12
    go_wp2
    go_ret
    exact ⟨rfl, hB⟩
  by_cases c3 : (5000 : Int) < (tb.length : Int)
  · have hRf : R = false := by rw [← hHR.out, decide_eq_false (p := (tb.length : Int) ≤ 5000) (by omega)]; simp
    subst hRf
    go_enter Tryz.func12, Tryz.ntmps12
    go_wp2
    go_ret
    exact ⟨rfl, hB⟩
  by_cases c4 : (100 : Int) < (td.length : Int)
  · have hRf : R = false := by rw [← hHR.out, decide_eq_false (p := (td.length : Int) ≤ 100) (by omega)]; simp
    subst hRf
    go_enter Tryz.func12, Tryz.ntmps12
    go_wp2
    go_ret
    exact ⟨rfl, hB⟩
  by_cases c5 : (1100 : Int) < (tnm.size : Int)
  · have hRf : R = false := by rw [← hHR.out, decide_eq_false (p := (tnm.size : Int) ≤ 1100) (by omega)]; simp
    subst hRf
    go_enter Tryz.func12, Tryz.ntmps12
    go_wp2
    go_ret
    exact ⟨rfl, hB⟩
  have hHR2 : Hid (tl.all (roomB most (dp - 1)) = R) := hid (by
    have := hHR.out
    rw [decide_eq_true (by omega), decide_eq_true (by omega), decide_eq_true (by omega), decide_eq_true (by omega), decide_eq_true (by omega), roomsB_all] at this
    simpa using this)
  clear hHR
  go_enter Tryz.func12, Tryz.ntmps12
  go_wp2_with fail
  generalize (w.alloc (.cells #[.int .i64 tk, .bool tneg, .slice tod td.length tcd, .string tnm, .int .i64 tn, .slice tol tl.length tcl, .slice tob tb.length tcb] 27)) = W0 at *
  have hll : tl.length ≤ 1000000 := by omega
  have hdp : 0 ≤ dp := by omega
  clear c1 c2 c3 c4 c5
  go_loopg [7] tl.length (fun t v7 wr => ∃ i : Nat, t + i = tl.length ∧ v7 = .int .i64 (i : Int) ∧ Hid (∀ j x, j < i → tl[j]? = some x → roomB most (dp - 1) x = true) ∧ Bx w.heap.size (.int .i64 tk) (.bool tneg) (.slice tod td.length tcd) (.string tnm) (.int .i64 tn) (.slice tol tl.length tcl) (.slice tob tb.length tcb) wr ∧ Below w.heap.size w wr)
  case atStart => exact ⟨0, by omega, rfl, hid (fun j x hj => by omega), kA, hB⟩
  case round =>
    obtain ⟨i, hti, rfl, hH, kr, hBr⟩ := hrel
    clear kA hB
    obtain ⟨x0, x1, x2, x3, x4, x5, x6⟩ := kr.res
    by_cases hil : i = tl.length
    · subst hil
      have hRt : R = true := by
        rw [← hHR2.out, List.all_eq_true]
        intro x hx
        obtain ⟨j, hj, he⟩ := List.getElem_of_mem hx
        exact hH.out j x hj (by rw [List.getElem?_eq_getElem hj, he])
      subst hRt
      go_wp2
      go_ret
      exact ⟨rfl, hBr⟩
    · have hil' : i < tl.length := by omega
      have hii : ((i : Nat) : Int) < ((tl.length : Nat) : Int) := by omega
      obtain ⟨t, ht⟩ : ∃ t, tl[i]? = some t := ⟨tl[i], by simp [hil']⟩
      obtain ⟨a, k', neg', od', ld', cd', nm', n', ol', ll', cl', ob', lb', cb', rfl, hTv', y0, y1, y2, y3, y4, y5, y6⟩ := htR.get ht hBr
      have hsz : tsz t ≤ N := by have := tsz_mem ht; simp only [tsz] at hN; omega
      have hHt := hid ht
      clear ht
      go_wp2_with fail
      refine (hIH.out t _ (dp - 1) _ hsz (by omega) (by omega) hTv').mono ?_
      rintro e w2 ⟨rfl, b2⟩
      have hB2 := below_and hBr (by have := hBr.size; omega) b2
      have k2 := kr.below b2
      obtain ⟨bb, hbb⟩ : ∃ bb, roomB most (dp - 1) t = bb := ⟨_, rfl⟩
      rw [hbb]
      have hHb := hid hbb
      clear hbb hTv' x0 x1 x2 x3 x4 x5 x6 y0 y1 y2 y3 y4 y5 y6 b2 hBr kr
      cases bb with
      | false =>
        have hRf : R = false := by
          rw [← hHR2.out]
          cases hq : tl.all (roomB most (dp - 1)) with
          | false => rfl
          | true =>
            rw [List.all_eq_true] at hq
            have := hq t (List.mem_of_getElem? hHt.out)
            rw [hHb.out] at this; simp at this
        subst hRf
        go_wp2
        go_ret
        exact ⟨rfl, hB2⟩
      | true =>
        go_wp2
        go_roundg (tl.length - (i + 1))
        case measure => omega
        case rel =>
          refine ⟨i + 1, by omega, by go_num, hid (fun j x hj hx => ?_), k2, hB2⟩
          rcases Nat.lt_or_ge j i with h | h
          · exact hH.out j x h hx
          · have : j = i := by omega
            subst this
            rw [hHt.out] at hx
            injection hx with hx; subst hx
            exact hHb.out
end Go.Proofs.YtjacoodfhkaioaaGreatDoor
namespace Go.Proofs.YtjacoodfhkaioaaGreatDoor
open Go.ChangeShapes Go.WideShapes Go.ChangeAt Go.RowKit Go.Shelf
set_option linter.unusedSimpArgs false
set_option linter.unusedVariables false
set_option maxRecDepth 2000
theorem partsL_take {l : List Tm} {i : Nat} {t : Tm} (h : l[i]? = some t) : (partsL (l.take (i + 1))).length = (partsL (l.take i)).length + (parts t).length := by
  induction l generalizing i with
  | nil => simp at h
  | cons x l ih =>
    cases i with
    | zero => simp at h; subst h; simp [partsL]
    | succ i =>
      simp only [List.getElem?_cons_succ] at h
      simp only [List.take_succ_cons, partsL, List.length_append, ih h]; omega
theorem parts_len (t : Tm) : 1 ≤ (parts t).length := by rw [parts_eq]; simp
theorem partsL_take_le (l : List Tm) (i : Nat) : (partsL (l.take i)).length ≤ (partsL l).length := by
  induction l generalizing i with
  | nil => simp [partsL]
  | cons x l ih =>
    cases i with
    | zero => simp [partsL]
    | succ i => simp only [List.take_succ_cons, partsL, List.length_append]; have := ih i; omega
theorem tr_end {M M' n p q : Nat} (hM : M' = M + 1) (hH : (n ≤ M → n = p + 1) ∧ (M < n → M < p + 1)) (hle : p ≤ q) (hs : p = q ∨ M < n) : min (q + 1) M' = min n M' := by
  subst hM
  rcases hs with rfl | h
  · rcases Nat.lt_or_ge M n with h | h
    · have := hH.2 h; omega
    · have := hH.1 h; omega
  · have := hH.2 h; omega
theorem tr_step {M M' n p p' k q : Nat} (hM : M' = M + 1) (h1 : n = p + 1) (h2 : p' = p + k) (h3 : min k M' = q) : (n + q ≤ M → n + q = p' + 1) ∧ (M < n + q → M < p' + 1) := by
  subst hM; omega
theorem mem_partsL {l : List Tm} {i : Nat} {t p : Tm} (h : l[i]? = some t) (hp : p ∈ parts t) : p ∈ partsL l := by
  induction l generalizing i with
  | nil => simp at h
  | cons x l ih =>
    cases i with
    | zero => simp at h; subst h; simp [partsL, hp]
    | succ i => simp only [List.getElem?_cons_succ] at h; simp only [partsL, List.mem_append]; exact .inr (ih h)
set_option maxHeartbeats 2000000 in
set_option maxRecDepth 4000 in
theorem rTree_w : ∀ (N : Nat) (T : Tm) (v : Value) (w : World), tsz T ≤ N → (∀ p ∈ parts T, p.ok1) → TV (Low w) w T v →
    Calls Tryz.prog 42 #[v] w fun e w' => e = .returned (.int .i64 ((treeN T : Nat) : Int)) ∧ Below w.heap.size w w' := by
  intro N
  induction N with
  | zero => intro T v w h; cases T; simp only [tsz] at h; omega
  | succ N ih =>
  intro T v w hN hok hT
  have hok1 := hok T (by rw [parts_eq]; simp)
  cases T with | mk tk tneg td tnm tn tl tb =>
  obtain ⟨_, _, hll, _, _⟩ : td.length ≤ 1000000 ∧ tnm.size ≤ 1000000 ∧ tl.length ≤ 1000000 ∧ tb.length ≤ 1000000 ∧ Lm 4294967296 td := hok1
  unfold TV at hT
  obtain ⟨tod, tcd, tol, tcl, tob, tcb, rfl, _, _, _, _, _, htl, htR⟩ := hT
  have hB : Below w.heap.size w (w.alloc (.cells #[.int .i64 tk, .bool tneg, .slice tod td.length tcd, .string tnm, .int .i64 tn, .slice tol tl.length tcl, .slice tob tb.length tcb] 27)) := (Below.refl _ w).alloc (Nat.le_refl _) _
  have kA := Bx.new w (.int .i64 tk) (.bool tneg) (.slice tod td.length tcd) (.string tnm) (.int .i64 tn) (.slice tol tl.length tcl) (.slice tob tb.length tcb) 27
  have hIH := hid ih
  clear ih
  obtain ⟨R, hR⟩ : ∃ R, treeN (.mk tk tneg td tnm tn tl tb) = R := ⟨_, rfl⟩
  rw [hR]
  unfold treeN at hR
  by_cases hk : tk = 4 ∨ tk = 6
  · have hp : parts (.mk tk tneg td tnm tn tl tb) = .mk tk tneg td tnm tn tl tb :: partsL tl := by simp [parts, hk]
    have hok2 : Hid (∀ p ∈ partsL tl, p.ok1) := hid (fun p hp' => hok p (by rw [hp]; simp [hp']))
    rw [hp] at hR
    simp only [List.length_cons] at hR
    have hHR := hid hR
    clear hR hp hok
    rcases hk with rfl | rfl
    · skip
      go_enter Tryz.func42, Tryz.ntmps42
      go_wp2_with fail
      generalize (w.alloc (.cells #[.int .i64 4, .bool tneg, .slice tod td.length tcd, .string tnm, .int .i64 tn, .slice tol tl.length tcl, .slice tob tb.length tcb] 27)) = W0 at *
      go_loopg [3, 4] tl.length (fun t v3 v4 wr => ∃ (i n : Nat), t + i = tl.length ∧ v3 = .int .i64 (n : Int) ∧ v4 = .int .i64 (i : Int) ∧ n ≤ 131073 ∧ Hid ((n ≤ 65536 → n = (partsL (tl.take i)).length + 1) ∧ (65536 < n → 65536 < (partsL (tl.take i)).length + 1)) ∧ Bx w.heap.size (.int .i64 4) (.bool tneg) (.slice tod td.length tcd) (.string tnm) (.int .i64 tn) (.slice tol tl.length tcl) (.slice tob tb.length tcb) wr ∧ Below w.heap.size w wr)
      case atStart => exact ⟨0, 1, by omega, rfl, rfl, by omega, hid (by simp [partsL]), kA, hB⟩
      case round =>
        obtain ⟨i, n, hti, rfl, rfl, hn, hH, kr, hBr⟩ := hrel
        clear kA hB
        obtain ⟨x0, x1, x2, x3, x4, x5, x6⟩ := kr.res
        by_cases hst : i = tl.length ∨ 65536 < n
        · have hRn : R = min n 65537 := by
            have h1 := hH.out
            rw [← hHR.out]
            exact tr_end (M := 65536) rfl h1 (partsL_take_le tl i) (hst.imp (fun h => by rw [h, List.take_length]) id)
          by_cases hn2 : n ≤ 65536
          · have hil : i = tl.length := by omega
            have hRn2 : R = n := by omega
            subst hRn2
            have e1 : ¬ ((i : Int) < (tl.length : Int)) := by omega
            have e2 : ((R : Nat) : Int) ≤ 65536 := by omega
            clear hst hRn hil
            go_wp2
            go_ret
            refine ⟨?_, hBr⟩
            first | rfl | (simp; omega)
          · have hRn2 : R = 65537 := by omega
            subst hRn2
            have e2 : ¬ ((n : Int) ≤ 65536) := by omega
            have e3 : (65537 : Int) ≤ (n : Int) := by omega
            clear hst hRn
            go_wp2
            all_goals (
              go_ret
              refine ⟨?_, hBr⟩
              first | rfl | (simp; omega))
        · have hil' : i < tl.length := by omega
          have hii : ((i : Nat) : Int) < ((tl.length : Nat) : Int) := by omega
          have hn6 : n ≤ 65536 := by omega
          have hn7 : ((n : Nat) : Int) ≤ 65536 := by omega
          clear hst
          obtain ⟨t, ht⟩ : ∃ t, tl[i]? = some t := ⟨tl[i], by simp [hil']⟩
          obtain ⟨a, k', neg', od', ld', cd', nm', n', ol', ll', cl', ob', lb', cb', rfl, hTv', y0, y1, y2, y3, y4, y5, y6⟩ := htR.get ht hBr
          have hsz : tsz t ≤ N := by have := tsz_mem ht; simp only [tsz] at hN; omega
          have hokt : ∀ p ∈ parts t, p.ok1 := fun p hp => hok2.out p (mem_partsL ht hp)
          have hHt := hid ht
          have hst2 := hid (partsL_take ht)
          clear ht
          go_wp2_with fail
          refine (hIH.out t _ _ hsz hokt hTv').mono ?_
          rintro e w2 ⟨rfl, b2⟩
          have hB2 := below_and hBr (by have := hBr.size; omega) b2
          have k2 := kr.below b2
          have htn : treeN t ≤ 65537 := Nat.min_le_right _ _
          clear hTv' x0 x1 x2 x3 x4 x5 x6 y0 y1 y2 y3 y4 y5 y6 b2 hBr kr hokt
          obtain ⟨q, hq⟩ : ∃ q, treeN t = q := ⟨_, rfl⟩
          rw [hq] at htn ⊢
          have hHq := hid hq
          clear hq
          go_wp2
          go_roundg (tl.length - (i + 1))
          case measure => omega
          case rel =>
            refine ⟨i + 1, n + q, by omega, by go_num, by go_num, by omega, hid ?_, k2, hB2⟩
            exact tr_step (M := 65536) rfl (hH.out.1 hn6) hst2.out hHq.out
    · skip
      go_enter Tryz.func42, Tryz.ntmps42
      go_wp2_with fail
      generalize (w.alloc (.cells #[.int .i64 6, .bool tneg, .slice tod td.length tcd, .string tnm, .int .i64 tn, .slice tol tl.length tcl, .slice tob tb.length tcb] 27)) = W0 at *
      go_loopg [3, 4] tl.length (fun t v3 v4 wr => ∃ (i n : Nat), t + i = tl.length ∧ v3 = .int .i64 (n : Int) ∧ v4 = .int .i64 (i : Int) ∧ n ≤ 131073 ∧ Hid ((n ≤ 65536 → n = (partsL (tl.take i)).length + 1) ∧ (65536 < n → 65536 < (partsL (tl.take i)).length + 1)) ∧ Bx w.heap.size (.int .i64 6) (.bool tneg) (.slice tod td.length tcd) (.string tnm) (.int .i64 tn) (.slice tol tl.length tcl) (.slice tob tb.length tcb) wr ∧ Below w.heap.size w wr)
      case atStart => exact ⟨0, 1, by omega, rfl, rfl, by omega, hid (by simp [partsL]), kA, hB⟩
      case round =>
        obtain ⟨i, n, hti, rfl, rfl, hn, hH, kr, hBr⟩ := hrel
        clear kA hB
        obtain ⟨x0, x1, x2, x3, x4, x5, x6⟩ := kr.res
        by_cases hst : i = tl.length ∨ 65536 < n
        · have hRn : R = min n 65537 := by
            have h1 := hH.out
            rw [← hHR.out]
            exact tr_end (M := 65536) rfl h1 (partsL_take_le tl i) (hst.imp (fun h => by rw [h, List.take_length]) id)
          by_cases hn2 : n ≤ 65536
          · have hil : i = tl.length := by omega
            have hRn2 : R = n := by omega
            subst hRn2
            have e1 : ¬ ((i : Int) < (tl.length : Int)) := by omega
            have e2 : ((R : Nat) : Int) ≤ 65536 := by omega
            clear hst hRn hil
            go_wp2
            go_ret
            refine ⟨?_, hBr⟩
            first | rfl | (simp; omega)
          · have hRn2 : R = 65537 := by omega
            subst hRn2
            have e2 : ¬ ((n : Int) ≤ 65536) := by omega
            have e3 : (65537 : Int) ≤ (n : Int) := by omega
            clear hst hRn
            go_wp2
            all_goals (
              go_ret
              refine ⟨?_, hBr⟩
              first | rfl | (simp; omega))
        · have hil' : i < tl.length := by omega
          have hii : ((i : Nat) : Int) < ((tl.length : Nat) : Int) := by omega
          have hn6 : n ≤ 65536 := by omega
          have hn7 : ((n : Nat) : Int) ≤ 65536 := by omega
          clear hst
          obtain ⟨t, ht⟩ : ∃ t, tl[i]? = some t := ⟨tl[i], by simp [hil']⟩
          obtain ⟨a, k', neg', od', ld', cd', nm', n', ol', ll', cl', ob', lb', cb', rfl, hTv', y0, y1, y2, y3, y4, y5, y6⟩ := htR.get ht hBr
          have hsz : tsz t ≤ N := by have := tsz_mem ht; simp only [tsz] at hN; omega
          have hokt : ∀ p ∈ parts t, p.ok1 := fun p hp => hok2.out p (mem_partsL ht hp)
          have hHt := hid ht
          have hst2 := hid (partsL_take ht)
          clear ht
          go_wp2_with fail
          refine (hIH.out t _ _ hsz hokt hTv').mono ?_
          rintro e w2 ⟨rfl, b2⟩
          have hB2 := below_and hBr (by have := hBr.size; omega) b2
          have k2 := kr.below b2
          have htn : treeN t ≤ 65537 := Nat.min_le_right _ _
          clear hTv' x0 x1 x2 x3 x4 x5 x6 y0 y1 y2 y3 y4 y5 y6 b2 hBr kr hokt
          obtain ⟨q, hq⟩ : ∃ q, treeN t = q := ⟨_, rfl⟩
          rw [hq] at htn ⊢
          have hHq := hid hq
          clear hq
          go_wp2
          go_roundg (tl.length - (i + 1))
          case measure => omega
          case rel =>
            refine ⟨i + 1, n + q, by omega, by go_num, by go_num, by omega, hid ?_, k2, hB2⟩
            exact tr_step (M := 65536) rfl (hH.out.1 hn6) hst2.out hHq.out
  · have hp : parts (.mk tk tneg td tnm tn tl tb) = [.mk tk tneg td tnm tn tl tb] := by simp [parts, hk]
    rw [hp] at hR
    have hR1 : R = 1 := by rw [← hR]; rfl
    subst hR1
    have e4 : (tk == 4) = false := by simp; omega
    have e6 : (tk == 6) = false := by simp; omega
    clear hR hp hk
    go_enter Tryz.func42, Tryz.ntmps42
    go_wp2
    go_ret
    exact ⟨rfl, hB⟩
end Go.Proofs.YtjacoodfhkaioaaGreatDoor
namespace Go.Proofs.YtjacoodfhkaioaaGreatDoor
open Go.ChangeShapes Go.WideShapes Go.ChangeAt Go.RowKit
set_option linter.unusedSimpArgs false
set_option linter.unusedVariables false
set_option maxRecDepth 2000
/-- two Norms are held against one another limb by limb: here of one number -/
theorem sameNum_w (va vb : Value) (Z : Int) (K : Nat) (w : World) (hK : K ≤ 1000000) (ha : IsC va Z K w) (hb : IsC vb Z K w) :
    Calls Tryz.prog 86 #[va, vb] w fun e w' => e = .returned (.bool true) ∧ Below w.heap.size w w' := by
  obtain ⟨oa, ca, rfl, hLa, hca, hka⟩ := ha
  obtain ⟨ob, cb, rfl, hLb, hcb, hkb⟩ := hb
  obtain ⟨bz, hbz⟩ : ∃ bz, decide (Z < 0) = bz := ⟨_, rfl⟩
  rw [hbz]
  generalize glim 4294967296 Z.natAbs = l at *
  clear hbz
  obtain ⟨kA, kB, hB0, hz0⟩ := boxes2 w (.bool bz) (.slice oa l.length ca) (.bool bz) (.slice ob l.length cb) 84 84
  have hbb : (bz != bz) = false := by cases bz <;> rfl
  have hll : ((l.length : Int) != (l.length : Int)) = false := by simp
  go_enter Tryz.func86, Tryz.ntmps86
  go_wp2
  generalize ((w.alloc (.cells #[.bool bz, .slice oa l.length ca] 84)).alloc (.cells #[.bool bz, .slice ob l.length cb] 84)) = W0 at *
  go_loopw [5] (fun iv wr => ∃ k : Nat, iv = .int .i64 (k : Int) ∧ k ≤ l.length ∧ Below W0.heap.size W0 wr) (fun iv _ => l.length - (intOf iv).toNat)
  case atStart => exact ⟨0, rfl, by omega, Below.refl _ _⟩
  case round =>
    obtain ⟨k, rfl, hk, hbw⟩ := hrel
    have hBw := below_and hB0 (Nat.le_refl _) hbw
    obtain ⟨f1, f2, f3, f4⟩ := id (kA.below hbw (by omega))
    obtain ⟨f5, f6, f7, f8⟩ := id (kB.below hbw (by omega))
    by_cases h1 : k < l.length
    · have h1z : (k : Int) < (l.length : Int) := by omega
      obtain ⟨x, hx⟩ : ∃ x, l[k]? = some x := ⟨l[k], by simp [h1]⟩
      obtain ⟨a, rfl, cx⟩ := (hLa.below hBw) k x hx
      obtain ⟨b, rfl, cy⟩ := (hLb.below hBw) k x hx
      go_wp2
      go_quiet (fail)
      go_wp2
      go_roundw
      case rel => exact ⟨k + 1, by go_num, by omega, below_drewNv hbw _⟩
      case measure => simp [intOf]; omega
    · have h1z : ¬ (k : Int) < (l.length : Int) := by omega
      go_wp2
      go_ret
      exact ⟨rfl, hBw⟩
set_option maxHeartbeats 1000000 in
theorem ofInt_w (n : Int) (w : World) (h0 : -9223372036854775808 ≤ n) (h1 : n < 9223372036854775808) :
    Calls Tryz.prog 92 #[.int .i64 n] w fun e w' => ∃ v', e = .returned v' ∧ IsC v' n 2 w' ∧ Below w.heap.size w w' := by
  obtain ⟨m, hm⟩ : ∃ m : Nat, n.natAbs = m := ⟨_, rfl⟩
  have hlo : IntKind.u32.wrap (m : Int) = ((m % 4294967296 : Nat) : Int) := by rw [IntKind.wrap_u32]; omega
  have hhi : IntKind.u32.wrap ((m : Int) / 4294967296) = ((m / 4294967296 : Nat) : Int) := by rw [IntKind.wrap_u32]; omega
  have hBx : Below w.heap.size w (w.alloc (.cells #[.bool false, .slice none 0 0] 84)) := (Below.refl _ w).alloc (Nat.le_refl _) _
  have hBy : Below w.heap.size w ((w.alloc (.cells #[.bool false, .slice none 0 0] 84)).alloc (.cells #[.int .u32 ((m % 4294967296 : Nat) : Int), .int .u32 ((m / 4294967296 : Nat) : Int)] 145)) := hBx.alloc (by simp) _
  have kC : Box w.heap.size (.bool false) (.slice none 0 0) ((w.alloc (.cells #[.bool false, .slice none 0 0] 84)).alloc (.cells #[.int .u32 ((m % 4294967296 : Nat) : Int), .int .u32 ((m / 4294967296 : Nat) : Int)] 145)) := (Box.new w _ _ _).alloc _ (by simp)
  have hL : Lies (some ⟨w.heap.size + 1, 0, none⟩) [m % 4294967296, m / 4294967296] ((w.alloc (.cells #[.bool false, .slice none 0 0] 84)).alloc (.cells #[.int .u32 ((m % 4294967296 : Nat) : Int), .int .u32 ((m / 4294967296 : Nat) : Int)] 145)) := by
    have := lies_pair (w.alloc (.cells #[.bool false, .slice none 0 0] 84)) (m % 4294967296) (m / 4294967296) 145
    simp only [World.size_alloc] at this
    exact this
  have hN : IsN (.agg #[.bool (decide (n < 0)), .slice (some ⟨w.heap.size + 1, 0, none⟩) 2 2]) n 2 ((w.alloc (.cells #[.bool false, .slice none 0 0] 84)).alloc (.cells #[.int .u32 ((m % 4294967296 : Nat) : Int), .int .u32 ((m / 4294967296 : Nat) : Int)] 145)) := by
    refine ⟨_, _, [m % 4294967296, m / 4294967296], 2, rfl, hL, by simp, ?_, ?_, by simp⟩
    · exact Lm.cons (by omega) (Lm.cons (by omega) (Lm.nil _))
    · have : gval 4294967296 [m % 4294967296, m / 4294967296] = m := by simp only [gval]; omega
      rw [this]; unfold sv
      by_cases hn : n < 0
      · simp only [hn, decide_true, if_true]; omega
      · simp only [hn, decide_false, Bool.false_eq_true, if_false]; omega
  generalize hg : m % 4294967296 = lo at *
  generalize hg2 : m / 4294967296 = hi at *
  have hz : ((w.alloc (.cells #[.bool false, .slice none 0 0] 84)).alloc (.cells #[.int .u32 (lo : Int), .int .u32 (hi : Int)] 145)).heap.size = w.heap.size + 2 := by simp
  by_cases hn : n < 0
  · have hd : decide (n < 0) = true := by simp [hn]
    rw [hd] at hN
    have w1 : IntKind.u64.wrap (-IntKind.u64.wrap n) = (m : Int) := by rw [IntKind.wrap_u64, IntKind.wrap_u64]; omega
    clear hm hg hg2 hd hL
    go_enter Tryz.func92, Tryz.ntmps92
    go_wp2_with fail
    generalize ((w.alloc (.cells #[.bool false, .slice none 0 0] 84)).alloc (.cells #[.int .u32 (lo : Int), .int .u32 (hi : Int)] 145)) = W0 at *
    refine (rnorm_w _ n 2 _ (by omega) hN).mono ?_
    rintro e w4 ⟨sl4, rfl, hF4, hk4, b4⟩
    have hC4 := hF4.isC hk4
    obtain ⟨o4, c4, rfl, L4, z4, _⟩ := hF4.parts
    have hB4 := below_and hBy (Nat.le_refl _) b4
    have kC4 := kC.below b4 (by omega)
    obtain ⟨e1, e2, e3, e4⟩ := id kC4
    go_wp2
    refine bodyPost_ret (v := .agg #[.bool (decide (n < 0)), .slice o4 (glim 4294967296 n.natAbs).length c4]) (by simp [results, Tryz.results92, go_sem, e1, e2, hn]) rfl ⟨_, rfl, ?_, ?_⟩
    · exact hC4.box kC4
    · exact (hB4.setCell (p := ⟨w.heap.size, 0, none⟩) (by simp) _).setCell (p := ⟨w.heap.size, 1, none⟩) (by simp) _
  · have hd : decide (n < 0) = false := by simp [hn]
    rw [hd] at hN
    have w1 : IntKind.u64.wrap n = (m : Int) := by rw [IntKind.wrap_u64]; omega
    clear hm hg hg2 hd hL
    go_enter Tryz.func92, Tryz.ntmps92
    go_wp2_with fail
    generalize ((w.alloc (.cells #[.bool false, .slice none 0 0] 84)).alloc (.cells #[.int .u32 (lo : Int), .int .u32 (hi : Int)] 145)) = W0 at *
    refine (rnorm_w _ n 2 _ (by omega) hN).mono ?_
    rintro e w4 ⟨sl4, rfl, hF4, hk4, b4⟩
    have hC4 := hF4.isC hk4
    obtain ⟨o4, c4, rfl, L4, z4, _⟩ := hF4.parts
    have hB4 := below_and hBy (Nat.le_refl _) b4
    have kC4 := kC.below b4 (by omega)
    obtain ⟨e1, e2, e3, e4⟩ := id kC4
    go_wp2
    refine bodyPost_ret (v := .agg #[.bool (decide (n < 0)), .slice o4 (glim 4294967296 n.natAbs).length c4]) (by simp [results, Tryz.results92, go_sem, e1, e2, hn]) rfl ⟨_, rfl, ?_, ?_⟩
    · exact hC4.box kC4
    · exact (hB4.setCell (p := ⟨w.heap.size, 0, none⟩) (by simp) _).setCell (p := ⟨w.heap.size, 1, none⟩) (by simp) _
end Go.Proofs.YtjacoodfhkaioaaGreatDoor
namespace Go.Proofs.YtjacoodfhkaioaaGreatDoor
open Go.ChangeShapes Go.WideShapes Go.ChangeAt Go.RowKit Go.Shelf
set_option linter.unusedSimpArgs false
set_option linter.unusedVariables false
set_option maxRecDepth 2000
def intT (Z : Int) : Tm := .mk 0 (decide (Z < 0)) (glim 4294967296 Z.natAbs) noS 0 [] []
theorem tv_int {S B : Nat} {w w' : World} {Z : Int} {o : Option Addr} {c : Nat} (h : w.ownsRow B 145 1 (.slice o (glim 4294967296 Z.natAbs).length c) (glim 4294967296 Z.natAbs).length (lim (glim 4294967296 Z.natAbs))) (hS : S ≤ B) (hk : ∀ g, B ≤ g → g < w.heap.size → w'.heap[g]? = w.heap[g]?) :
    TV (Zw S w') w' (intT Z) (tmV 0 (decide (Z < 0)) (.slice o (glim 4294967296 Z.natAbs).length c) noS 0 nilS nilS) := by
  have hc := own_sl h
  obtain ⟨_, _, e, hc⟩ := hc
  simp only [Value.slice.injEq, true_and] at e
  obtain ⟨rfl, rfl⟩ := e
  unfold intT TV
  refine ⟨o, c, none, 0, none, 0, rfl, own_ls h hS (fun g hg => ?_), hc, lm_glim (by omega) _, LsB.nil _ _ _, by simp, by simp, by unfold TR; trivial⟩
  subst hg
  obtain ⟨cur, hq, hB, _⟩ := own_blk h
  exact hk g hB (Array.getElem?_eq_some_iff.1 hq).1
theorem bx27 (w : World) (a0 a1 b0 b1 b2 b3 b4 b5 b6 : Value) (ta tb : TypeId) :
    Box w.heap.size a0 a1 ((w.alloc (.cells #[a0, a1] ta)).alloc (.cells #[b0, b1, b2, b3, b4, b5, b6] tb)) ∧ Bx (w.heap.size + 1) b0 b1 b2 b3 b4 b5 b6 ((w.alloc (.cells #[a0, a1] ta)).alloc (.cells #[b0, b1, b2, b3, b4, b5, b6] tb)) ∧ Below w.heap.size w ((w.alloc (.cells #[a0, a1] ta)).alloc (.cells #[b0, b1, b2, b3, b4, b5, b6] tb)) ∧ ((w.alloc (.cells #[a0, a1] ta)).alloc (.cells #[b0, b1, b2, b3, b4, b5, b6] tb)).heap.size = w.heap.size + 2 := by
  have h1 := Box.new w a0 a1 ta
  have h2 := Bx.new (w.alloc (.cells #[a0, a1] ta)) b0 b1 b2 b3 b4 b5 b6 tb
  rw [World.size_alloc] at h2
  exact ⟨h1.below ((Below.refl _ _).alloc (Nat.le_refl _) _) (by simp), h2, ((Below.refl _ w).alloc (Nat.le_refl _) _).alloc (by simp) _, by simp⟩
theorem bx72 (w : World) (a0 a1 a2 a3 a4 a5 a6 b0 b1 : Value) (ta tb : TypeId) :
    Bx w.heap.size a0 a1 a2 a3 a4 a5 a6 ((w.alloc (.cells #[a0, a1, a2, a3, a4, a5, a6] ta)).alloc (.cells #[b0, b1] tb)) ∧ Box (w.heap.size + 1) b0 b1 ((w.alloc (.cells #[a0, a1, a2, a3, a4, a5, a6] ta)).alloc (.cells #[b0, b1] tb)) ∧ Below w.heap.size w ((w.alloc (.cells #[a0, a1, a2, a3, a4, a5, a6] ta)).alloc (.cells #[b0, b1] tb)) ∧ ((w.alloc (.cells #[a0, a1, a2, a3, a4, a5, a6] ta)).alloc (.cells #[b0, b1] tb)).heap.size = w.heap.size + 2 := by
  have h1 := Bx.new w a0 a1 a2 a3 a4 a5 a6 ta
  have h2 := Box.new (w.alloc (.cells #[a0, a1, a2, a3, a4, a5, a6] ta)) b0 b1 tb
  rw [World.size_alloc] at h2
  exact ⟨h1.below ((Below.refl _ _).alloc (Nat.le_refl _) _), h2, ((Below.refl _ w).alloc (Nat.le_refl _) _).alloc (by simp) _, by simp⟩
set_option maxHeartbeats 1000000 in
theorem Num_w (v : Value) (Z : Int) (K : Nat) (w : World) (hK : K ≤ 1000000) (h : IsN v Z K w) :
    Calls Tryz.prog 105 #[v] w fun e w' => ∃ v', e = .returned v' ∧ TV (Zw w.heap.size w') w' (intT Z) v' ∧ (glim 4294967296 Z.natAbs).length ≤ K ∧ Below w.heap.size w w' := by
  have hN : ∀ w', Below w.heap.size w w' → IsN v Z K w' := fun w' hb => h.below hb
  obtain ⟨neg, o, l, c, rfl, hL, hc, hm, hs, hk⟩ := h
  clear hL hc hm hs hk
  obtain ⟨kA, kB, hB0, hz0⟩ := bx27 w (.bool neg) (.slice o l.length c) (.int .i64 0) (.bool false) nilS (.string noS) (.int .i64 0) nilS nilS 115 27
  go_enter Tryz.func105, Tryz.ntmps105
  go_wp2_with fail
  generalize ((w.alloc (.cells #[.bool neg, .slice o l.length c] 115)).alloc (.cells #[.int .i64 0, .bool false, .slice none 0 0, .string { data := #[] }, .int .i64 0, .slice none 0 0, .slice none 0 0] 27)) = W0 at *
  refine (norm_w _ Z K _ hK (hN _ hB0)).mono ?_
  rintro e w1 ⟨sl, rfl, hF, hKK, b1⟩
  obtain ⟨o1, c1, rfl, _, _, _⟩ := hF.parts
  have hF' : w1.ownsRow (w.heap.size + 2) 145 1 (.slice o1 (glim 4294967296 Z.natAbs).length c1) (glim 4294967296 Z.natAbs).length (lim (glim 4294967296 Z.natAbs)) := own_mono (show w1.ownsRow W0.heap.size 145 1 _ _ _ from hF) (by omega)
  clear hF
  have hHF := hid hF'
  clear hF'
  have hB1 := below_and hB0 (by omega) b1
  have kA1 := kA.below b1 (by omega)
  have kB1 := kB.below b1
  have hz1 := b1.size
  clear hB0 kA kB b1 hN
  obtain ⟨f1, f2, f3, f4⟩ := id kA1
  have kA2 : Box w.heap.size (.bool (decide (Z < 0))) (.slice o1 (glim 4294967296 Z.natAbs).length c1) ((w1.setCell ⟨w.heap.size, 0, none⟩ (.bool (decide (Z < 0)))).setCell ⟨w.heap.size, 1, none⟩ (.slice o1 (glim 4294967296 Z.natAbs).length c1)) := kA1.put
  have ho2 : Only w.heap.size w1 ((w1.setCell ⟨w.heap.size, 0, none⟩ (.bool (decide (Z < 0)))).setCell ⟨w.heap.size, 1, none⟩ (.slice o1 (glim 4294967296 Z.natAbs).length c1)) := (only_set w1 w.heap.size 0 _).setCell 1 _
  have kB2 := kB1.only ho2 (by omega)
  have hB2 := hB1.trans (ho2.below (B := w.heap.size) (Nat.le_refl _))
  have hz2 := ho2.2.1
  go_upto_region 2 with fail
  clear f1 f2 f3 f4 kA1 kB1
  generalize hW2 : (w1.setCell ⟨w.heap.size, 0, none⟩ (.bool (decide (Z < 0)))).setCell ⟨w.heap.size, 1, none⟩ (.slice o1 (glim 4294967296 Z.natAbs).length c1) = w2 at *
  clear hW2
  obtain ⟨f1, f2, f3, f4⟩ := id kA2
  have hf := kB2.fr
  obtain ⟨g0, g1, g2, g3, g4, g5, g6⟩ := kB2.res
  obtain ⟨zb, hzb⟩ : ∃ zb, decide (Z < 0) = zb := ⟨_, rfl⟩
  have hHz := hid hzb
  rw [hzb] at f1 ⊢
  clear hzb
  have hput := kB2.put (b0 := .int .i64 0) (b1 := .bool zb) (b2 := .slice o1 (glim 4294967296 Z.natAbs).length c1) (b3 := .string noS) (b4 := .int .i64 0) (b5 := nilS) (b6 := nilS)
  have hon := only_put w2 (w.heap.size + 1) (.int .i64 0) (.bool zb) (.slice o1 (glim 4294967296 Z.natAbs).length c1) (.string noS) (.int .i64 0) nilS nilS
  obtain ⟨r0, r1, r2, r3, r4, r5, r6⟩ := hput.res
  have hfin : TV (Zw w.heap.size (((((((w2.setCell ⟨w.heap.size + 1, 0, none⟩ (.int .i64 0)).setCell ⟨w.heap.size + 1, 1, none⟩ (.bool zb)).setCell ⟨w.heap.size + 1, 2, none⟩ (.slice o1 (glim 4294967296 Z.natAbs).length c1)).setCell ⟨w.heap.size + 1, 3, none⟩ (.string noS)).setCell ⟨w.heap.size + 1, 4, none⟩ (.int .i64 0)).setCell ⟨w.heap.size + 1, 5, none⟩ nilS).setCell ⟨w.heap.size + 1, 6, none⟩ nilS)) (((((((w2.setCell ⟨w.heap.size + 1, 0, none⟩ (.int .i64 0)).setCell ⟨w.heap.size + 1, 1, none⟩ (.bool zb)).setCell ⟨w.heap.size + 1, 2, none⟩ (.slice o1 (glim 4294967296 Z.natAbs).length c1)).setCell ⟨w.heap.size + 1, 3, none⟩ (.string noS)).setCell ⟨w.heap.size + 1, 4, none⟩ (.int .i64 0)).setCell ⟨w.heap.size + 1, 5, none⟩ nilS).setCell ⟨w.heap.size + 1, 6, none⟩ nilS) (intT Z) (tmV 0 zb (.slice o1 (glim 4294967296 Z.natAbs).length c1) noS 0 nilS nilS) := by
    have := tv_int (S := w.heap.size) (w' := (((((((w2.setCell ⟨w.heap.size + 1, 0, none⟩ (.int .i64 0)).setCell ⟨w.heap.size + 1, 1, none⟩ (.bool zb)).setCell ⟨w.heap.size + 1, 2, none⟩ (.slice o1 (glim 4294967296 Z.natAbs).length c1)).setCell ⟨w.heap.size + 1, 3, none⟩ (.string noS)).setCell ⟨w.heap.size + 1, 4, none⟩ (.int .i64 0)).setCell ⟨w.heap.size + 1, 5, none⟩ nilS).setCell ⟨w.heap.size + 1, 6, none⟩ nilS)) hHF.out (by omega) (fun g hg hg2 => (hon.2.2 g (by omega)).trans (ho2.2.2 g (by omega)))
    rw [hHz.out] at this
    exact this
  have hBf := hB2.trans (hon.below (B := w.heap.size) (by omega))
  have hHf := hid hfin
  have hHk := hid hKK
  clear hfin hHF hon ho2 hB2 hB1 hKK
  go_wp2
  exact bodyPost_ret (v := tmV 0 zb (.slice o1 (glim 4294967296 Z.natAbs).length c1) noS 0 nilS nilS) (by simp [results, Tryz.results105, go_sem, r0, r1, r2, r3, r4, r5, r6]) rfl ⟨_, rfl, hHf.out, hHk.out, hBf⟩
theorem bx1 (w : World) (b0 b1 b2 b3 b4 b5 b6 : Value) (tb : TypeId) :
    Bx w.heap.size b0 b1 b2 b3 b4 b5 b6 (w.alloc (.cells #[b0, b1, b2, b3, b4, b5, b6] tb)) ∧ Below w.heap.size w (w.alloc (.cells #[b0, b1, b2, b3, b4, b5, b6] tb)) ∧ (w.alloc (.cells #[b0, b1, b2, b3, b4, b5, b6] tb)).heap.size = w.heap.size + 1 :=
  ⟨Bx.new w b0 b1 b2 b3 b4 b5 b6 tb, (Below.refl _ w).alloc (Nat.le_refl _) _, by simp⟩
def atomT (nm : ByteArray) : Tm := .mk 1 false [] nm 0 [] []
theorem tv_flat {Z : Nat → Prop} {w : World} (k : Int) (nm : ByteArray) (n : Int) : TV Z w (.mk k false [] nm n [] []) (tmV k false nilS nm n nilS nilS) := by
  unfold TV
  exact ⟨none, 0, none, 0, none, 0, rfl, Ls.nil _ _ _, by simp, Lm.nil _, LsB.nil _ _ _, by simp, by simp, by unfold TR; trivial⟩
theorem ok_flat (k : Int) {nm : ByteArray} (n : Int) (h : nm.size ≤ 1000000) : (Tm.mk k false [] nm n [] []).ok1 := ⟨by simp, h, by simp, by simp, Lm.nil _⟩
set_option maxHeartbeats 1000000 in
theorem Atom_w (nm : ByteArray) (w : World) (hn : nm.size ≤ 1000000) :
    Calls Tryz.prog 108 #[.string nm] w fun e w' => ∃ v', e = .returned v' ∧ TV (Zw w.heap.size w') w' (atomT nm) v' ∧ Below w.heap.size w w' := by
  obtain ⟨kX, hBX, hz0⟩ := bx1 w (.int .i64 0) (.bool false) nilS (.string noS) (.int .i64 0) nilS nilS 27
  go_enter Tryz.func108, Tryz.ntmps108
  go_wp2_with fail
  generalize (w.alloc (.cells #[.int .i64 0, .bool false, .slice none 0 0, .string { data := #[] }, .int .i64 0, .slice none 0 0, .slice none 0 0] 27)) = W0 at *
  refine (Copy_w (atomT nm) _ _ (by simp [atomT, parts]) (by simp only [atomT, parts]; intro p hp; simp at hp; subst hp; exact ok_flat _ _ hn) (tv_flat 1 nm 0)).mono ?_
  rintro e w2 ⟨v2, rfl, hV, b2⟩
  have hcp : cpT (atomT nm) = atomT nm := by simp [atomT, cpT, prT]
  rw [hcp] at hV
  clear hcp
  have hBX := below_and hBX (by omega) b2
  have kX := kX.below b2
  clear b2
  obtain ⟨k9, neg9, od9, ld9, cd9, nm9, n9, ol9, ll9, cl9, ob9, lb9, cb9, rfl⟩ := hV.form
  have hf9 := kX.fr
  obtain ⟨x0, x1, x2, x3, x4, x5, x6⟩ := kX.res
  have hput := kX.put (b0 := .int .i64 k9) (b1 := .bool neg9) (b2 := .slice od9 ld9 cd9) (b3 := .string nm9) (b4 := .int .i64 n9) (b5 := .slice ol9 ll9 cl9) (b6 := .slice ob9 lb9 cb9)
  have hon := only_put w2 w.heap.size (.int .i64 k9) (.bool neg9) (.slice od9 ld9 cd9) (.string nm9) (.int .i64 n9) (.slice ol9 ll9 cl9) (.slice ob9 lb9 cb9)
  obtain ⟨r0, r1, r2, r3, r4, r5, r6⟩ := hput.res
  have hfin := hid (zw_move (S' := w.heap.size) hV (fun k hk _ => hon.2.2 k (by omega)) (by omega))
  have hBf := hBX.trans (hon.below (B := w.heap.size) (by omega))
  clear hV hon kX hput hBX
  go_wp2
  exact bodyPost_ret (v := tmV k9 neg9 (.slice od9 ld9 cd9) nm9 n9 (.slice ol9 ll9 cl9) (.slice ob9 lb9 cb9)) (by simp [results, Tryz.results108, go_sem, r0, r1, r2, r3, r4, r5, r6]) rfl ⟨_, rfl, hfin.out, hBf⟩
end Go.Proofs.YtjacoodfhkaioaaGreatDoor
