/- copies of package term. -/
import Derived.Test.YtddbndachoofoaaDoorTermCj
namespace Go.Proofs.YtddbndachoofoaaDoor
open Go.ChangeShapes Go.WideShapes Go.ChangeAt Go.RowKit Go.Shelf
set_option linter.unusedSimpArgs false
set_option linter.unusedVariables false
set_option maxHeartbeats 4000000 in
set_option maxRecDepth 4000 in
theorem copies_w (ls : List Tm) (o : Option Addr) (c : Nat) (w : World) (hne : ls ≠ []) (hlen : (partsL ls).length ≤ 500000) (hl : ls.length ≤ 500000) (hok : ∀ p ∈ partsL ls, p.ok1) (hT : TR (Low w) w ls o) :
    Calls Tryd.prog 43 #[.slice o ls.length c] w fun e w' => ∃ g' c', e = .returned (.slice (some ⟨g', 0, none⟩) ls.length c') ∧ TR (Zw w.heap.size w') w' (cpL ls) (some ⟨g', 0, none⟩) ∧ ls.length ≤ c' ∧ Below w.heap.size w w' := by
  obtain ⟨xs, hRC, hLc⟩ := hT.rc
  obtain ⟨iT, hT1, hT2, hT3, hT4⟩ := info_parts infoT
  obtain ⟨i0, hi, hyy0, hyy1, hyy2⟩ := info_parts infoR
  obtain ⟨vA, w1, hr1, hA1, b1⟩ := ap_run 23 29 iT _ 7 112 Tryd.underlying23 hT1 hT2 hT3 hT4 rfl (by decide) w o c ls.length xs hRC.len hRC.one (by omega) (by omega) hLc
  have hRC1 := hRC.zs (fun k hk => b1.block k hk)
  obtain ⟨oA, cA, rfl, hcA⟩ := own_sl hA1
  obtain ⟨gA, rfl⟩ : ∃ gA, oA = some ⟨gA, 0, none⟩ := by
    obtain ⟨h1, ⟨h2, h3⟩ | ⟨g', cap', cur, h2, _⟩⟩ := hA1
    · exact absurd (List.eq_nil_of_length_eq_zero h3) hne
    · simp only [Value.slice.injEq, true_and] at h2
      exact ⟨g', h2.1⟩
  clear hT hRC hLc
  have hxs := hid (show ∃ x, x = xs from ⟨_, rfl⟩)
  go_enter Tryd.func43, Tryd.ntmps43
  go_wp2_with (at_builtin; refine wpList_append_run rfl _ _ 23 rfl _ _ _ _ rfl rfl hr1 ?_)
  clear hr1
  obtain ⟨G, hG⟩ : ∃ G : World → Prop, G = fun w' => TR (Zw w.heap.size w') w' (cpL ls) (some ⟨gA, 0, none⟩) := ⟨_, rfl⟩
  have hCI : CI w.heap.size w1 (fun _ => False) [⟨gA, cA, ls⟩] G := by
    obtain ⟨cur, hgA, hBA, _, _⟩ := own_blk hA1
    refine ⟨by simp, fun r hr => ?_, fun k hk => hk.elim, fun w' _ hd => ?_, fun r hr => ?_⟩
    · simp at hr; subst hr
      exact ⟨hBA, xs, hRC1, hA1⟩
    · rw [hG]; exact (hd ⟨gA, cA, ls⟩ (by simp)).tr
    · simp at hr; subst hr; exact hok
  have hHG := hid hG
  clear hG
  have hW0 := World.ownsRow_lit (e := 23) (size := 1) (base := w.heap.size) w1 #[.slice (some ⟨gA, 0, none⟩) ls.length cA] 1 b1.size (by simp [maxLen]) (by simp)
  have hCI1 := hCI.kept (Kept.of_alloc (F := fun _ => False) w1 (.cells #[.slice (some ⟨gA, 0, none⟩) ls.length cA] 23)) (fun _ h => h.elim) (fun _ _ => id) (fun _ _ => id) b1.size
  have hB1 := b1.alloc b1.size (.cells #[.slice (some ⟨gA, 0, none⟩) ls.length cA] 23)
  clear hCI hA1 hRC1 hxs hok
  generalize (w1.alloc (.cells #[.slice (some ⟨gA, 0, none⟩) ls.length cA] 23)) = W0 at *
  go_loopg [4] (mu [⟨gA, cA, ls⟩]) (fun t v4 wr => ∃ (st : List Pr) (Fp : Nat → Prop), t = mu st ∧ CI w.heap.size wr Fp st G ∧ mu st ≤ 500001 ∧ wr.ownsRow w.heap.size 23 1 v4 st.length (st.map Pr.val).reverse ∧ Below w.heap.size w wr)
  case atStart => exact ⟨[⟨gA, cA, ls⟩], _, rfl, hCI1, by simp only [mu]; omega, by simpa [Pr.val] using hW0, hB1⟩
  case round =>
    obtain ⟨st, Fp, rfl, hI, hmu, hOw, hBw⟩ := hrel
    clear hCI1 hW0 hB1
    cases st with
    | nil =>
      obtain ⟨o5, c5, rfl, _⟩ := own_shape hOw
      have hfin : G wr := hI.wo wr (fun _ _ => rfl) (fun r hr => by simp at hr)
      have hHf := hid hfin
      clear hOw hI hfin
      go_wp2
      go_ret
      have := hHf.out
      rw [hHG.out] at this
      exact ⟨gA, cA, rfl, this, hcA, hBw⟩
    | cons r st =>
      obtain ⟨g, rc, l⟩ := r
      obtain ⟨o5, c5, rfl, ho5⟩ := own_shape hOw
      obtain ⟨g5, rfl⟩ := ho5 (by simp)
      clear ho5
      simp only [List.map_cons, List.reverse_cons, List.length_cons] at hOw
      obtain ⟨hOw', hcell, hBg, hgl, hc5⟩ := own_take1 hOw
      clear hOw
      unfold Pr.val at hcell
      simp only at hcell
      obtain ⟨hgS, x0, hRC0, hOR0⟩ := hI.pend ⟨g, rc, l⟩ (by simp)
      have hJ : CJ w.heap.size wr Fp st g rc l 0 [] x0 G := by
        refine ⟨hI.nd, fun r hr => hI.pend r (List.mem_cons_of_mem _ hr), fun k hk => ?_, fun hf => ?_, hI.wo.pop hgS, fun r hr => hI.ok r (List.mem_cons_of_mem _ hr), hI.ok ⟨g, rc, l⟩ (by simp), by simp, hRC0, hOR0, hgS⟩
        · obtain ⟨h1, h2, h3⟩ := hI.fp k hk
          exact ⟨h1, h2, fun r hr => h3 r (List.mem_cons_of_mem _ hr)⟩
        · exact (hI.fp g hf).2.2 ⟨g, rc, l⟩ (by simp) rfl
      clear hRC0 hOR0 hI
      have hmu' : (partsL l).length + 1 + mu st ≤ 500001 := by simpa [mu] using hmu
      have hsl : st.length ≤ 500001 := by have := mu_len st; omega
      have hll : l.length ≤ 500001 := by have := partsL_len l; omega
      clear hmu
      go_wp2_with fail
      have hMb : Hid (∃ M, M = (partsL l).length + mu st) := hid ⟨_, rfl⟩
      obtain ⟨M, hM⟩ : ∃ M, M = (partsL l).length + mu st := ⟨_, rfl⟩
      have hHM := hid hM
      clear hM hMb
      have hMl : M ≤ 500000 := by have := hHM.out; omega
      clear hmu'
      go_loopg [4, 28] l.length (fun t v4 iv wx => ∃ (i : Nat) (st' : List Pr) (Fp' : Nat → Prop) (pre xs : List Value), t + i = l.length ∧ iv = .int .i64 (i : Int) ∧ CJ w.heap.size wx Fp' st' g rc l i pre xs G ∧ (partsL (l.drop i)).length + mu st' ≤ M ∧ wx.ownsRow w.heap.size 23 1 v4 st'.length (st'.map Pr.val).reverse ∧ Below w.heap.size w wx)
      case atStart => exact ⟨0, st, Fp, [], x0, by omega, rfl, hJ, by rw [List.drop_zero, ← hHM.out]; exact Nat.le_refl _, hOw', hBw⟩
      case round =>
        obtain ⟨i, st', Fp', pre, xs, hti, rfl, hJ, hmu, hOw2, hBw2⟩ := hrel
        clear hOw' hBw hcell hgl hBg hc5
        obtain ⟨o4, c4, rfl, _⟩ := own_shape hOw2
        by_cases hil : i = l.length
        · subst hil
          have hx0 : xs = [] := by
            have := hJ.rc
            rw [List.drop_length] at this
            exact this
          subst hx0
          have hI : CI w.heap.size wr (fun k => Fp' k ∨ k = g) st' G := by
            have hro := rowB_of hJ.own
            rw [List.append_nil] at hro
            have hwi := hJ.wi
            rw [List.drop_length] at hwi
            refine ⟨(List.nodup_cons.1 hJ.nd).2, hJ.pend, fun k hk => ?_, hwi.fin hro, hJ.ok⟩
            rcases hk with hk | rfl
            · exact hJ.fp k hk
            · obtain ⟨cur, hg, hS, _, _⟩ := own_blk hJ.own
              exact ⟨hS, ⟨cur, 29, hg, by decide⟩, fun r hr e => (List.nodup_cons.1 hJ.nd).1 (List.mem_map.2 ⟨r, hr, e⟩)⟩
          have hmu2 : mu st' ≤ M := by omega
          clear hmu hJ
          go_wp2
          go_roundg (mu st')
          case measure => have := hHM.out; simp only [mu]; omega
          case rel => exact ⟨st', _, rfl, hI, by omega, hOw2, hBw2⟩
        · have hil' : i < l.length := by omega
          obtain ⟨t, ht⟩ : ∃ t, l[i]? = some t := ⟨l[i], by simp [hil']⟩
          have hdrop : l.drop i = t :: l.drop (i + 1) := by
            rw [List.drop_eq_getElem_cons hil']
            rw [List.getElem?_eq_getElem hil'] at ht
            injection ht with ht; rw [ht]
          have hrc := hJ.rc
          rw [hdrop] at hrc
          obtain ⟨tk, tneg, tod, tld, tcd, tnm, tn, tol, tll, tcl, tob, tlb, tcb, ys, hTV, rfl, hRCr⟩ := hrc
          have hHd := hid hdrop
          clear hdrop ht
          have hii : ((i : Nat) : Int) < ((l.length : Nat) : Int) := by omega
          have hpl := hJ.pl
          obtain ⟨y0, y1, y2, y3, y4, y5, y6⟩ := own_cells7 hJ.own hpl
          have kA := Bx.new wr (.int .i64 tk) (.bool tneg) (.slice tod tld tcd) (.string tnm) (.int .i64 tn) (.slice tol tll tcl) (.slice tob tlb tcb) 29
          have hJ1 := hJ.kept (Kept.of_alloc (F := fun _ => False) wr (.cells #[.int .i64 tk, .bool tneg, .slice tod tld tcd, .string tnm, .int .i64 tn, .slice tol tll tcl, .slice tob tlb tcb] 29)) (fun _ h => h.elim) (fun _ _ => id) (fun _ _ => id) id hBw2.size
          have hO1 := own_below hOw2 ((Below.refl _ wr).alloc (Nat.le_refl _) (.cells #[.int .i64 tk, .bool tneg, .slice tod tld tcd, .string tnm, .int .i64 tn, .slice tol tll tcl, .slice tob tlb tcb] 29))
          have hB1 := hBw2.alloc hBw2.size (.cells #[.int .i64 tk, .bool tneg, .slice tod tld tcd, .string tnm, .int .i64 tn, .slice tol tll tcl, .slice tob tlb tcb] 29)
          have hz1 : (wr.alloc (.cells #[.int .i64 tk, .bool tneg, .slice tod tld tcd, .string tnm, .int .i64 tn, .slice tol tll tcl, .slice tob tlb tcb] 29)).heap.size = wr.heap.size + 1 := by simp
          have hTV1 : TV (fun k => k < w.heap.size) (wr.alloc (.cells #[.int .i64 tk, .bool tneg, .slice tod tld tcd, .string tnm, .int .i64 tn, .slice tol tll tcl, .slice tob tlb tcb] 29)) t _ := TV.zs (fun k hk => ((Below.refl wr.heap.size wr).alloc (Nat.le_refl _) _).block k (Nat.lt_of_lt_of_le hk hBw2.size)) _ _ hTV
          clear hJ hOw2 hRCr hTV
          have hokt : t.ok1 := hJ1.okl t (by rw [hHd.out]; simp [partsL, parts_eq])
          go_wp2_with fail
          clear y0 y1 y2 y3 y4 y5 y6
          generalize (wr.alloc (.cells #[.int .i64 tk, .bool tneg, .slice tod tld tcd, .string tnm, .int .i64 tn, .slice tol tll tcl, .slice tob tlb tcb] 29)) = w2 at *
          refine (detached_w w.heap.size t _ _ hB1.size hokt hTV1).mono ?_
          rintro e w3 ⟨v3, rfl, hD3, b3⟩
          have hJ3 := hJ1.kept (Kept.of_below (F := fun _ => False) b3) (fun _ h => h.elim) (fun _ _ => id) (fun _ _ => id) id hB1.size
          have hO3 := own_below hO1 b3
          have hB3 := below_and hB1 (by omega) b3
          have hgB : g < w2.heap.size := by obtain ⟨cur, hg, _⟩ := own_blk hJ1.own; exact (Array.getElem?_eq_some_iff.1 hg).1
          have hrB : Hid (∀ r ∈ st', r.g < w2.heap.size) := hid fun r hr => by obtain ⟨cur, hg⟩ := (hJ1.pend r hr).blk; exact (Array.getElem?_eq_some_iff.1 hg).1
          have hfB : Hid (∀ k, Fp' k → k < w2.heap.size) := hid fun k hk => by obtain ⟨_, ⟨c, t, hc, _⟩, _⟩ := hJ1.fp k hk; exact (Array.getElem?_eq_some_iff.1 hc).1
          have hoB : Hid (∀ k, (Value.slice o4 st'.length c4).ownBlock = some k → w.heap.size ≤ k ∧ k < w2.heap.size) := hid hO1.lt
          clear hJ1 hO1 hTV1 kA
          obtain ⟨dk, dneg, oD, lD, cD, dnm, dn, oL, lL, cL, oB, lB, cB, rfl⟩ := hD3.form
          obtain ⟨y0, y1, y2, y3, y4, y5, y6⟩ := own_cells7 hJ3.own hpl
          have hfr := own_fr hJ3.own
          have hS3 := hB3.size
          unfold tmV
          go_upto_region 11 with fail
          have hO4 := own_put7 (b0 := .int .i64 dk) (b1 := .bool dneg) (b2 := .slice oD lD cD) (b3 := .string dnm) (b4 := .int .i64 dn) (b5 := .slice oL lL cL) (b6 := .slice oB lB cB) hJ3.own hpl
          have hon := only_put7 w3 g (i * 7) (.int .i64 dk) (.bool dneg) (.slice oD lD cD) (.string dnm) (.int .i64 dn) (.slice oL lL cL) (.slice oB lB cB)
          have hkp : Kept (fun k => k = g) w3 (((((((w3.setCell ⟨g, i * 7, none⟩ (.int .i64 dk)).setCell ⟨g, i * 7 + 1, none⟩ (.bool dneg)).setCell ⟨g, i * 7 + 2, none⟩ (.slice oD lD cD)).setCell ⟨g, i * 7 + 3, none⟩ (.string dnm)).setCell ⟨g, i * 7 + 4, none⟩ (.int .i64 dn)).setCell ⟨g, i * 7 + 5, none⟩ (.slice oL lL cL)).setCell ⟨g, i * 7 + 6, none⟩ (.slice oB lB cB)) := ⟨hon.1.os, hon.1.tape, hon.1.output, hon.1.size, fun k hk hn => hon.2.2 k hn⟩
          have hB4 := hB3.trans (hon.below (B := w.heap.size) hJ3.gS)
          clear y0 y1 y2 y3 y4 y5 y6 hfr hon
          generalize (((((((w3.setCell ⟨g, i * 7, none⟩ (.int .i64 dk)).setCell ⟨g, i * 7 + 1, none⟩ (.bool dneg)).setCell ⟨g, i * 7 + 2, none⟩ (.slice oD lD cD)).setCell ⟨g, i * 7 + 3, none⟩ (.string dnm)).setCell ⟨g, i * 7 + 4, none⟩ (.int .i64 dn)).setCell ⟨g, i * 7 + 5, none⟩ (.slice oL lL cL)).setCell ⟨g, i * 7 + 6, none⟩ (.slice oB lB cB)) = w4 at *
          obtain ⟨y0, y1, y2, y3, y4, y5, y6⟩ := own_cells7 hO4 hpl
          have hgr : w3.grownBy w4 (some g) := ⟨hkp.os, hkp.tape, hkp.output, hkp.size, fun k hk hne => hkp.block k hk (fun e => hne (by rw [e]))⟩
          obtain ⟨curg, hgw3, _⟩ := own_blk hJ3.own
          have hwn : ¬ (Value.slice o4 st'.length c4).ownBlock = some g := wait_ne hO3 hgw3 (by decide)
          have hOw4 := hO3.kept hgr (.inr hwn)
          have hmuS := hid (show (partsL (l.drop i)).length = 1 + (partsL t.kids).length + (partsL (l.drop (i + 1))).length by rw [hHd.out]; simp only [partsL, parts_eq, List.length_append, List.length_cons]; omega)
          have hnr : ∀ r ∈ st', r.g ≠ g := fun r hr e => (List.nodup_cons.1 hJ3.nd).1 (List.mem_map.2 ⟨r, hr, e⟩)
          have hfin := cj_step (M := fun k => k = g) (wF := w4) hJ3 hHd.out hD3 hB1.size hgB hrB.out hfB.out hkp (fun k hk => by rw [hk]; exact ⟨hJ3.gS, hgB⟩) hnr (fun k hf e => hJ3.fpg (e ▸ hf)) hS3 (by simpa using hO4)
          obtain ⟨hlL, hc0, _⟩ := hfin
          by_cases hk0 : t.kids = []
          · have hJ5 := hc0 hk0
            have hlL0 : lL = 0 := by rw [hlL, hk0]; rfl
            subst hlL0
            have hmu5 : (partsL (l.drop (i + 1))).length + mu st' ≤ M := by have := hmuS.out; omega
            clear hlL hc0 hnr hmu hJ3 hO3 hgr hwn hkp hD3
            have hHk := hid hk0
            clear hk0
            go_wp2
            go_roundg (l.length - (i + 1))
            case measure => omega
            case rel => exact ⟨i + 1, st', _, _, ys, by omega, by go_num, hJ5, hmu5, hOw4, hB4⟩
          · have hkl : 0 < t.kids.length := List.length_pos_iff.2 hk0
            have hlp : (0 : Int) < (lL : Int) := by rw [hlL]; omega
            have hHO := hid (hOw4.alloc (.cells #[.slice oL lL cL] 23))
            have hS4 := hB4.size
            have hsl4 : st'.length + 1 ≤ 500001 := by have := mu_len st'; have := hmuS.out; omega
            clear hc0
            have hHk := hid hk0
            have hHL := hid hlL
            clear hk0 hlL
            go_wp2_with (at_builtin; refine wpList_append_own _ rfl _ _ 71 rfl w.heap.size 23 i0 (.slice none 0 0) 1 24 Tryd.underlying71 hi hyy0 hyy1 hyy2 rfl (by decide) _ _ _ rfl hHO.out ⟨w4.heap.size, 0, none⟩ 1 1 [.slice oL lL cL] rfl ?c1 ?c2 ?c3 ?c4 ?c5 ?c6 ?_)
            case c1 => rfl
            case c2 =>
              intro j u hj
              cases j with
              | zero =>
                simp only [List.getElem?_cons_zero, Option.some.injEq] at hj
                subst hj
                rw [add_zero, World.cell?_alloc_mark]; rfl
              | succ j => simp at hj
            case c3 => intro u hu; simp at hu; subst hu; rfl
            case c4 => unfold maxLen; omega
            case c5 => omega
            case c6 => simp; omega
            intro v6 w6 hown hgrow hnil
            have hk6 : Kept (fun k => k = g ∨ (Value.slice o4 st'.length c4).ownBlock = some k) w3 w6 := ((hkp.mono (fun k hk => .inl hk)).trans (Kept.of_alloc w4 _)).trans (Kept.of_grown hgrow (fun k hk => .inr hk))
            have hgu : w6.heap[g]? = w4.heap[g]? := by
              have h1 : (w4.alloc (.cells #[.slice oL lL cL] 23)).heap[g]? = w4.heap[g]? := ((Below.refl w4.heap.size w4).alloc (Nat.le_refl _) _).block g (Nat.lt_of_lt_of_le (Array.getElem?_eq_some_iff.1 hgw3).1 hkp.size)
              rw [← h1]
              exact hgrow.block g (by have := (Array.getElem?_eq_some_iff.1 hgw3).1; have := hkp.size; simp; omega) (fun e => hwn e.symm)
            have hO6 := own_same hO4 hgu
            have hfin := cj_step (wF := w6) hJ3 hHd.out hD3 hB1.size hgB hrB.out hfB.out hk6 (fun k hk => by
                rcases hk with rfl | hk
                · exact ⟨hJ3.gS, hgB⟩
                · exact hoB.out k hk) (fun r hr hm => by
                rcases hm with hm | hm
                · exact hnr r hr hm
                · obtain ⟨cur, hc⟩ := (hJ3.pend r hr).blk
                  exact wait_ne hO3 hc (by decide) hm) (fun k hf hm => by
                rcases hm with rfl | hm
                · exact hJ3.fpg hf
                · obtain ⟨_, ⟨c, t, hc, ht⟩, _⟩ := hJ3.fp k hf
                  exact wait_ne hO3 hc ht hm) hS3 (by simpa using hO6)
            obtain ⟨_, _, hc1⟩ := hfin
            obtain ⟨gL, hoL, hJ5⟩ := hc1 hHk.out
            have hB6 : Below w.heap.size w w6 := (hB4.alloc hS4 _).trans (show Below w.heap.size _ w6 from ⟨hgrow.os, hgrow.tape, hgrow.output, hgrow.size, fun k hk => hgrow.block k (by simp; omega) (fun e => by have := hoB.out k e.symm; omega)⟩)
            have hmu5 : (partsL (l.drop (i + 1))).length + mu (⟨gL, cL, t.kids⟩ :: st') ≤ M := by have := hmuS.out; simp only [mu]; omega
            have hOw6 : w6.ownsRow w.heap.size 23 1 v6 (Pr.mk gL cL t.kids :: st').length ((Pr.mk gL cL t.kids :: st').map Pr.val).reverse := by
              have hll' := hHL.out
              subst hoL
              subst hll'
              simpa [Pr.val] using hown
            clear hown hgrow hnil hk6 hgu hO6 hc1 hJ3 hO3 hgr hwn hkp hD3 hHO hnr hOw4 hO4 y0 y1 y2 y3 y4 y5 y6
            go_wp2
            go_roundg (l.length - (i + 1))
            case measure => omega
            case rel => exact ⟨i + 1, _, _, _, ys, by omega, by go_num, hJ5, hmu5, hOw6, hB6⟩
end Go.Proofs.YtddbndachoofoaaDoor
