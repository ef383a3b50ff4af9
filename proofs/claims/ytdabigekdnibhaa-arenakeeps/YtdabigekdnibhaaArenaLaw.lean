/- What the statements' own helpers answer: two rows held against each other, copies, arenas with words. -/
import Derived.Test.YtdabigekdnibhaaArenaObj
namespace Go.Proofs.Ytdabigekdnibhaa
open Go.ChangeShapes Go.WideShapes Go.ChangeAt Go.RowKit
set_option linter.unusedSimpArgs false
set_option linter.unusedVariables false
set_option maxRecDepth 2000

/-- places somewhere in memory -/
def LiesI (o : Option Addr) (l : List Nat) (w : World) : Prop := ∀ (j x : Nat), l[j]? = some x → ∃ a, o = some a ∧ w.cell? (a.add j) = some (.int .i64 (x : Int))
theorem LiesI.below {o : Option Addr} {l : List Nat} {w w' : World} (h : LiesI o l w) (hb : Below w.heap.size w w') : LiesI o l w' := fun j x hx => by
  obtain ⟨a, ha, hc⟩ := h j x hx
  exact ⟨a, ha, (hb.cell (World.block_lt_of_cell? _ _ hc)).trans hc⟩
set_option maxHeartbeats 1000000 in
theorem sameWords_w (oa ob : Option Addr) (la lb : List Int) (ca cb : Nat) (w : World) (ha : LiesW oa la w) (hb : LiesW ob lb w) (hl : la.length ≤ 2000000) :
    Calls Try.prog 24 #[.slice oa la.length ca, .slice ob lb.length cb] w fun e w' => e = .returned (.bool (decide (la = lb))) ∧ Below w.heap.size w w' := by
  by_cases hn : la.length = lb.length
  · obtain ⟨m, hm⟩ : ∃ m, la.length = m := ⟨_, rfl⟩
    have hmb : lb.length = m := by omega
    rw [hm, hmb]
    rw [hm] at hl
    obtain ⟨R, hR⟩ : ∃ R, decide (la = lb) = R := ⟨_, rfl⟩
    rw [hR]
    have hRH := hid hR
    have hmH := hid hm
    have hmbH := hid hmb
    have hmm : ((m : Int) != (m : Int)) = false := by simp
    clear hn hm hmb hR
    go_enter Try.func24, Try.ntmps24
    go_wp2_with fail
    go_loopw [5] (fun v wr => ∃ k : Nat, v = .int .i64 (k : Int) ∧ k ≤ m ∧ Below w.heap.size w wr ∧ Hid (∀ q : Nat, q < k → la[q]? = lb[q]?)) (fun v _ => m - (intOf v).toNat)
    case atStart => exact ⟨0, rfl, Nat.zero_le _, Below.refl _ _, hid (fun q hq => by omega)⟩
    case round =>
      obtain ⟨k, rfl, hk, bw, hH⟩ := hrel
      by_cases hkm : k < m
      · have hkz : (k : Int) < (m : Int) := by omega
        obtain ⟨x, hx⟩ : ∃ x, la[k]? = some x := ⟨la[k]'(by rw [hmH.out]; exact hkm), by simp⟩
        obtain ⟨y, hy⟩ : ∃ y, lb[k]? = some y := ⟨lb[k]'(by rw [hmbH.out]; exact hkm), by simp⟩
        obtain ⟨aa, rfl, hca⟩ := (ha.below bw) k x hx
        obtain ⟨ab, rfl, hcb⟩ := (hb.below bw) k y hy
        have hxH := hid hx
        have hyH := hid hy
        clear hx hy
        by_cases hxy : x = y
        · have ht : ((x : Int) != (y : Int)) = false := by simp [hxy]
          have hxyH := hid hxy
          clear hxy
          go_wp2_with fail
          go_quiet (fail)
          have bq := below_drewN wr nq
          go_wp2
          exact ⟨⟨k + 1, by go_num, by omega, bw.trans (below_le bq bw.size), hid (fun q hq => by
            by_cases e : q = k
            · subst e; rw [hxH.out, hyH.out, hxyH.out]
            · exact hH.out q (by omega))⟩, by simp [intOf]; omega⟩
        · have ht : ((x : Int) != (y : Int)) = true := by simp; omega
          have e : R = false := by
            rw [← hRH.out]
            simp only [decide_eq_false_iff_not]
            intro e
            rw [e, hyH.out] at hxH
            have := hxH.out
            injection this with this
            exact hxy this.symm
          clear hxy
          subst e
          go_wp2_with fail
          go_quiet (fail)
          have bq := below_drewN wr nq
          go_wp2
          go_ret
          exact ⟨rfl, bw.trans (below_le bq bw.size)⟩
      · have hkz : ¬ (k : Int) < (m : Int) := by omega
        have e : R = true := by
          rw [← hRH.out]
          simp only [decide_eq_true_eq]
          apply List.ext_getElem?
          intro q
          by_cases hq : q < k
          · exact hH.out q hq
          · rw [List.getElem?_eq_none (by rw [hmH.out]; omega), List.getElem?_eq_none (by rw [hmbH.out]; omega)]
        subst e
        go_wp2
        go_ret
        exact ⟨rfl, bw⟩
  · have e : decide (la = lb) = false := by
      simp only [decide_eq_false_iff_not]
      intro e
      exact hn (by rw [e])
    rw [e]
    have hmm : ((la.length : Int) != (lb.length : Int)) = true := by simp; omega
    clear hn e
    go_enter Try.func24, Try.ntmps24
    go_wp2
    all_goals go_ret
    all_goals exact ⟨rfl, Below.refl _ _⟩
set_option maxHeartbeats 1000000 in
theorem ints_w (oa ob : Option Addr) (la lb : List Nat) (ca cb : Nat) (w : World) (ha : LiesI oa la w) (hb : LiesI ob lb w) (hl : la.length ≤ 2000000) :
    Calls Try.prog 14 #[.slice oa la.length ca, .slice ob lb.length cb] w fun e w' => e = .returned (.bool (decide (la = lb))) ∧ Below w.heap.size w w' := by
  by_cases hn : la.length = lb.length
  · obtain ⟨m, hm⟩ : ∃ m, la.length = m := ⟨_, rfl⟩
    have hmb : lb.length = m := by omega
    rw [hm, hmb]
    rw [hm] at hl
    obtain ⟨R, hR⟩ : ∃ R, decide (la = lb) = R := ⟨_, rfl⟩
    rw [hR]
    have hRH := hid hR
    have hmH := hid hm
    have hmbH := hid hmb
    have hmm : ((m : Int) != (m : Int)) = false := by simp
    clear hn hm hmb hR
    go_enter Try.func14, Try.ntmps14
    go_wp2_with fail
    go_loopw [5] (fun v wr => ∃ k : Nat, v = .int .i64 (k : Int) ∧ k ≤ m ∧ Below w.heap.size w wr ∧ Hid (∀ q : Nat, q < k → la[q]? = lb[q]?)) (fun v _ => m - (intOf v).toNat)
    case atStart => exact ⟨0, rfl, Nat.zero_le _, Below.refl _ _, hid (fun q hq => by omega)⟩
    case round =>
      obtain ⟨k, rfl, hk, bw, hH⟩ := hrel
      by_cases hkm : k < m
      · have hkz : (k : Int) < (m : Int) := by omega
        obtain ⟨x, hx⟩ : ∃ x, la[k]? = some x := ⟨la[k]'(by rw [hmH.out]; exact hkm), by simp⟩
        obtain ⟨y, hy⟩ : ∃ y, lb[k]? = some y := ⟨lb[k]'(by rw [hmbH.out]; exact hkm), by simp⟩
        obtain ⟨aa, rfl, hca⟩ := (ha.below bw) k x hx
        obtain ⟨ab, rfl, hcb⟩ := (hb.below bw) k y hy
        have hxH := hid hx
        have hyH := hid hy
        clear hx hy
        by_cases hxy : x = y
        · have ht : (((x : Nat) : Int) != ((y : Nat) : Int)) = false := by simp [hxy]
          have hxyH := hid hxy
          clear hxy
          go_wp2_with fail
          go_quiet (fail)
          have bq := below_drewN wr nq
          go_wp2
          exact ⟨⟨k + 1, by go_num, by omega, bw.trans (below_le bq bw.size), hid (fun q hq => by
            by_cases e : q = k
            · subst e; rw [hxH.out, hyH.out, hxyH.out]
            · exact hH.out q (by omega))⟩, by simp [intOf]; omega⟩
        · have ht : (((x : Nat) : Int) != ((y : Nat) : Int)) = true := by simp; omega
          have e : R = false := by
            rw [← hRH.out]
            simp only [decide_eq_false_iff_not]
            intro e
            rw [e, hyH.out] at hxH
            have := hxH.out
            injection this with this
            exact hxy this.symm
          clear hxy
          subst e
          go_wp2_with fail
          go_quiet (fail)
          have bq := below_drewN wr nq
          go_wp2
          go_ret
          exact ⟨rfl, bw.trans (below_le bq bw.size)⟩
      · have hkz : ¬ (k : Int) < (m : Int) := by omega
        have e : R = true := by
          rw [← hRH.out]
          simp only [decide_eq_true_eq]
          apply List.ext_getElem?
          intro q
          by_cases hq : q < k
          · exact hH.out q hq
          · rw [List.getElem?_eq_none (by rw [hmH.out]; omega), List.getElem?_eq_none (by rw [hmbH.out]; omega)]
        subst e
        go_wp2
        go_ret
        exact ⟨rfl, bw⟩
  · have e : decide (la = lb) = false := by
      simp only [decide_eq_false_iff_not]
      intro e
      exact hn (by rw [e])
    rw [e]
    have hmm : ((la.length : Int) != (lb.length : Int)) = true := by simp; omega
    clear hn e
    go_enter Try.func14, Try.ntmps14
    go_wp2
    all_goals go_ret
    all_goals exact ⟨rfl, Below.refl _ _⟩
/-- append([]Word(nil), a...): a row of its own -/
theorem copy_w (o : Option Addr) (l : List Int) (c : Nat) (w : World) (hL : LiesW o l w) (hl : l.length ≤ 1000000) :
    Calls Try.prog 32 #[.slice o l.length c] w fun e w' => ∃ o' c', e = .returned (.slice o' l.length c') ∧ RowW (.slice o' l.length c') l w' ∧ (∀ q, (Value.slice o' l.length c').ownBlock = some q → w.heap.size ≤ q) ∧ Below w.heap.size w w' := by
  obtain ⟨i0, hi, hy0, hy1, hy2⟩ := info_parts infoW
  by_cases h0 : l = []
  · subst h0
    have hr : (Builtin.append_ #[35, 35] 35 #[.slice none 0 0, .slice o 0 c]).run Try.prog w = .ok (.slice none 0 0) w := by
      cases o <;> simp [Builtin.append_, run_underlying Try.underlying35, sizeOf, typeInfo, hi, Builtin.lenOf, Builtin.firstCells, loadCells, loadCellsFrom]
    simp only [List.length_nil]
    go_enter Try.func32, Try.ntmps32
    go_wp2_with (at_builtin; refine Lib.wpList_append_run _ rfl _ _ _ _ rfl _ _ rfl rfl _ _ hr ?_)
    all_goals go_ret
    all_goals exact ⟨_, _, rfl, World.ownsRow_nil _ _ _ _, by simp [Value.ownBlock], Below.refl _ _⟩
  · obtain ⟨x0, hx0⟩ : ∃ x, l[0]? = some x := ⟨l[0]'(by have := List.length_pos_iff.2 h0; omega), by simp⟩
    obtain ⟨a, rfl, _⟩ := hL 0 x0 hx0
    clear hx0
    obtain ⟨v', w', hr, hown, hg, _, hat⟩ := run_append_own_at (P := Try.prog) w 0 35 35 28 i0 (.int .u64 0) 1 8 Try.underlying35 hi hy0 hy1 hy2 rfl (by decide) (.slice none 0 0) 0 [] (World.ownsRow_nil _ _ _ _) a l.length c (ws l) (by rw [ws_length, Nat.mul_one]) (fun j v hv => by
      obtain ⟨x, hx, rfl⟩ := ws_get hv
      obtain ⟨a', e, hc⟩ := hL j x hx
      injection e with e; subst e
      exact hc) (ws_one _) (by unfold maxLen; omega) (by omega) (Nat.zero_le _)
    have hR : RowW v' l w' := by
      unfold RowW
      simpa using hown
    obtain ⟨o', c', rfl, _⟩ := hR.shape
    have hb : Below w.heap.size w w' := (Below.refl _ w).grown hg (Nat.le_refl _) (by simp [Value.ownBlock])
    have hq : ∀ q, (Value.slice o' l.length c').ownBlock = some q → w.heap.size ≤ q := fun q e => by
      rcases hat with e1 | e1
      · rw [e1] at e; simp [Value.ownBlock] at e
      · rw [e1] at e; injection e with e; omega
    clear hown hg hat
    go_enter Try.func32, Try.ntmps32
    go_wp2_with (at_builtin; refine Lib.wpList_append_run _ rfl _ _ _ _ rfl _ _ rfl rfl _ _ hr ?_)
    all_goals go_ret
    all_goals exact ⟨_, _, rfl, hR, hq, hb⟩
theorem mm_box {w w' : World} {v : Value} {l : List Int} {n : Nat} (hn : n ≤ 1048576) (hl : l.length ≤ n) (hR : RowW v l w') (hv : ∀ q, v.ownBlock = some q → w.heap.size ≤ q) (hb : Below w.heap.size w w') :
    Mm w'.heap.size (fun k => k = w'.heap.size ∨ v.ownBlock = some k) l n (w'.alloc (.cells #[v, .int .i64 (n : Int)] 49)) ∧ (∀ k, (k = w'.heap.size ∨ v.ownBlock = some k) → w.heap.size ≤ k) ∧ Below w.heap.size w (w'.alloc (.cells #[v, .int .i64 (n : Int)] 49)) := by
  have hsz := hb.size
  have ba : Below w'.heap.size w' (w'.alloc (.cells #[v, .int .i64 (n : Int)] 49)) := (Below.refl _ w').alloc (Nat.le_refl _) _
  refine ⟨⟨v, Box.new w' _ _ _, hR.of_block (fun k e => ba.block k (hR.lt k e)), fun e => by have := hR.lt _ e; omega, hl, hn, .inl rfl, fun k e => .inr e, fun k hk => ?_⟩, fun k hk => ?_, hb.trans (below_le ba hsz)⟩
  · simp
    rcases hk with rfl | hk
    · omega
    · have := hR.lt k hk; omega
  · rcases hk with rfl | hk
    · exact hsz
    · exact hv k hk
theorem mem_w (o : Option Addr) (l : List Int) (c m : Nat) (w : World) (hL : LiesW o l w) (hl : l.length + m ≤ 1000000) :
    Calls Try.prog 26 #[.slice o l.length c, .int .i64 (m : Int)] w fun e w' => ∃ g, e = .returned (.pointer (some ⟨g, 0, none⟩)) ∧ ∃ F, Mm g F l (l.length + m) w' ∧ (∀ k, F k → w.heap.size ≤ k) ∧ Below w.heap.size w w' := by
  have c1 := copy_w o l c w hL (by omega)
  have hz : wrap64 ((l.length : Int) + (m : Int)) = (l.length : Int) + (m : Int) := by unfold wrap64; omega
  go_enter Try.func26, Try.ntmps26
  go_wp2_with fail
  refine c1.mono ?_
  rintro e w1 ⟨o', c', rfl, hR, hq, hb⟩
  have hM := mm_box (n := l.length + m) (by omega) (by omega) hR hq hb
  have e0 : (((l.length + m : Nat) : Int)) = (l.length : Int) + (m : Int) := by omega
  rw [e0] at hM
  have hMH := hid hM
  clear hM e0 hq
  go_wp2
  all_goals go_ret
  all_goals exact ⟨_, rfl, _, hMH.out.1, hMH.out.2.1, hMH.out.2.2⟩
theorem fill_set {l : List Int} {k : Nat} {x : Int} (hx : l[k]? = some x) : setL (l.take k ++ List.replicate (l.length - k) 0) (k : Int) x = l.take (k + 1) ++ List.replicate (l.length - (k + 1)) 0 := by
  have hk := (List.getElem?_eq_some_iff.1 hx).1
  have hb : inB (l.take k ++ List.replicate (l.length - k) 0) (k : Int) = true := by
    unfold inB; rw [List.length_append, List.length_take, List.length_replicate]; simp; omega
  unfold setL
  rw [hb, if_pos rfl, Int.toNat_natCast]
  apply List.ext_getElem?
  intro q
  have ht : (l.take k).length = k := by rw [List.length_take]; omega
  have ht1 : (l.take (k + 1)).length = k + 1 := by rw [List.length_take]; omega
  rw [List.getElem?_set, List.getElem?_append, List.getElem?_append, ht, ht1, List.length_append, ht, List.length_replicate, List.getElem?_take, List.getElem?_take, List.getElem?_replicate, List.getElem?_replicate]
  by_cases e : k = q
  · subst e
    rw [if_pos rfl, if_pos (by omega), if_pos (by omega), if_pos (by omega)]
    exact hx.symm
  · rw [if_neg e]
    (repeat' split) <;> first | rfl | (exfalso; omega)
theorem fill_take {l : List Int} {n : Nat} (hn : l.length ≤ n) : takeB [] n (l.length : Int) = true ∧ takeL [] n (l.length : Int) = l.take 0 ++ List.replicate (l.length - 0) 0 := by
  have h : takeB [] n (l.length : Int) = true := by unfold takeB; simp; omega
  refine ⟨h, ?_⟩
  unfold takeL
  rw [h]; simp
set_option maxHeartbeats 1000000 in
theorem fill_w (o : Option Addr) (l : List Int) (c m : Nat) (w : World) (hL : LiesW o l w) (hl : l.length + m ≤ 1000000) :
    Calls Try.prog 12 #[.slice o l.length c, .int .i64 (m : Int)] w fun e w' => ∃ g, e = .returned (.pointer (some ⟨g, 0, none⟩)) ∧ ∃ F, Arn g F l (l.length + m) w' ∧ (∀ k, F k → w.heap.size ≤ k) ∧ Below w.heap.size w w' := by
  have c1 := new_w ((l.length + m : Nat) : Int) w
  have en : newN ((l.length + m : Nat) : Int) = l.length + m := by unfold newN; rw [if_pos (by omega)]; omega
  rw [en] at c1
  have e0 : (((l.length + m : Nat) : Int)) = (l.length : Int) + (m : Int) := by omega
  rw [e0] at c1
  have hz : wrap64 ((l.length : Int) + (m : Int)) = (l.length : Int) + (m : Int) := by unfold wrap64; omega
  obtain ⟨n, hn⟩ : ∃ n, l.length + m = n := ⟨_, rfl⟩
  rw [hn] at c1
  rw [hn]
  have hln : l.length ≤ n := by omega
  have hnb : n ≤ 1000000 := by omega
  clear hn en e0
  go_enter Try.func12, Try.ntmps12
  go_wp2_with fail
  refine c1.mono ?_
  rintro e w1 ⟨g, rfl, F, hA, hF, hb⟩
  have c2 := take_w g F [] n (l.length : Int) w1 hA
  rw [(fill_take hln).1, (fill_take hln).2] at c2
  clear c1 hA
  go_wp2_with fail
  refine c2.mono ?_
  rintro e w2 ⟨rfl, hA, hK⟩
  have b2 : Below w.heap.size w w2 := hb.trans (hK.below hb.size hF)
  clear c2 hz hb hK
  go_wp2_with fail
  go_loopw [6] (fun v wr => ∃ k : Nat, v = .int .i64 (k : Int) ∧ k ≤ l.length ∧ Below w.heap.size w wr ∧ Hid (Arn g F (l.take k ++ List.replicate (l.length - k) 0) n wr)) (fun v _ => l.length - (intOf v).toNat)
  case atStart => exact ⟨0, rfl, Nat.zero_le _, b2, hid hA⟩
  case round =>
    obtain ⟨k, rfl, hk, bw, hH⟩ := hrel
    by_cases hkl : k < l.length
    · have hkz : (k : Int) < (l.length : Int) := by omega
      obtain ⟨x, hx⟩ : ∃ x, l[k]? = some x := ⟨l[k], by simp⟩
      obtain ⟨a, rfl, hca⟩ := (hL.below bw) k x hx
      have c3 := set_w g F _ n (k : Int) x wr hH.out
      rw [fill_set hx] at c3
      clear hx
      go_wp2_with fail
      refine c3.mono ?_
      rintro e w3 ⟨rfl, hA3, hK3⟩
      have b3 : Below w.heap.size w w3 := bw.trans (hK3.below bw.size hF)
      have hA3H := hid hA3
      clear c3 hA3 hA
      go_wp2
      exact ⟨⟨k + 1, by go_num, by omega, b3, hA3H⟩, by simp [intOf]; omega⟩
    · have hkz : ¬ (k : Int) < (l.length : Int) := by omega
      have hA3 := hH.out
      rw [show k = l.length by omega, List.take_length, Nat.sub_self, List.replicate_zero, List.append_nil] at hA3
      clear hA
      go_wp2
      go_ret
      exact ⟨g, rfl, F, hA3, hF, bw⟩
set_option maxHeartbeats 1000000 in
theorem awake_w (w : World) : Calls Try.prog 7 #[] w fun e w' => e = .returned (.bool true) ∧ Below w.heap.size w w' := by
  have c1 := new_w 4 w
  rw [show newN 4 = 4 from by decide] at c1
  go_enter Try.func7, Try.ntmps7
  go_wp2_with fail
  refine c1.mono ?_
  rintro e w1 ⟨g, rfl, F, hA, hF, hb⟩
  have c2 := take_w g F [] 4 3 w1 hA
  rw [show takeV [] 4 3 = 0 from by decide, show takeB [] 4 3 = true from by decide, show takeL [] 4 3 = [0, 0, 0] from by decide] at c2
  clear c1 hA
  go_wp2_with fail
  refine c2.mono ?_
  rintro e w2 ⟨rfl, hA, hK⟩
  have b2 : Below w.heap.size w w2 := hb.trans (hK.below hb.size hF)
  have c3 := take_w g F [0, 0, 0] 4 2 w2 hA
  rw [show takeV [0, 0, 0] 4 2 = 0 from by decide, show takeB [0, 0, 0] 4 2 = false from by decide, show takeL [0, 0, 0] 4 2 = [0, 0, 0] from by decide] at c3
  clear c2 hA hb hK
  go_wp2_with fail
  refine c3.mono ?_
  rintro e w3 ⟨rfl, hA, hK⟩
  have b3 : Below w.heap.size w w3 := b2.trans (hK.below b2.size hF)
  have c4 := set_w g F [0, 0, 0] 4 2 5 w3 hA
  rw [show inB [0, 0, 0] 2 = true from by decide, show setL [0, 0, 0] 2 5 = [0, 0, 5] from by decide] at c4
  clear c3 hA b2 hK
  go_wp2_with fail
  refine c4.mono ?_
  rintro e w4 ⟨rfl, hA, hK⟩
  have b4 : Below w.heap.size w w4 := b3.trans (hK.below b3.size hF)
  have c5 := used_w g F [0, 0, 5] 4 w4 hA
  have c6 := size_w g F [0, 0, 5] 4 w4 hA
  clear c4 hA b3 hK
  go_wp2_with fail
  refine c5.mono ?_
  rintro e w5 ⟨rfl, rfl⟩
  go_wp2_with fail
  refine c6.mono ?_
  rintro e w6 ⟨rfl, rfl⟩
  go_wp2
  go_ret
  exact ⟨rfl, b4⟩
end Go.Proofs.Ytdabigekdnibhaa
