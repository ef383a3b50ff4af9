/- AtomsOnce, walked: whatever letters there are, and however long the name is, it answers true. -/
import Derived.Test.YtibgdncfahffpaaDoorAtomsOnceM
import Derived.Test.YtibgdncfahffpaaDoorAtomsOpen
import Derived.Deep.QuietTactic
import Derived.BigQuiet
namespace Go.Proofs.YtibgdncfahffpaaDoor.atomsOnce
open Go.ChangeShapes Go.WideShapes Go.ChangeAt Go.ChangeMaps Go.RowKit Go.Maps Go.Shelf
set_option linter.unusedSimpArgs false
set_option linter.unusedVariables false
/-- numbers in a row -/
abbrev RowI (v : Value) (cs : List Nat) (w : World) : Prop := w.ownsRow 0 3 1 v cs.length (cs.map fun (x : Nat) => Value.int .i64 (x : Int))
theorem RowI.of_block {v : Value} {ns : List Nat} {w w' : World} (h : RowI v ns w) (hb : ∀ k, v.ownBlock = some k → w'.heap[k]? = w.heap[k]?) : RowI v ns w' := by
  obtain ⟨h1, h2 | ⟨g, cap, cur, rfl, hg, hc, rest⟩⟩ := h
  · exact ⟨h1, .inl h2⟩
  · exact ⟨h1, .inr ⟨g, cap, cur, rfl, hg, (hb g rfl).trans hc, rest⟩⟩
theorem RowI.lt {v : Value} {ns : List Nat} {w : World} (h : RowI v ns w) : ∀ k, v.ownBlock = some k → k < w.heap.size := by
  obtain ⟨h1, ⟨rfl, _⟩ | ⟨g, cap, cur, rfl, hg, hc, rest⟩⟩ := h
  · intro k hk; simp [Value.ownBlock] at hk
  · intro k hk
    simp [Value.ownBlock] at hk
    subst hk
    exact (Array.getElem?_eq_some_iff.1 hc).1
theorem RowI.shape {v : Value} {ns : List Nat} {w : World} (h : RowI v ns w) : ∃ o c, v = .slice o ns.length c ∧ ns.length ≤ c ∧ ∀ (j s : Nat), ns[j]? = some s → ∃ a, o = some a ∧ w.cell? (a.add j) = some (.int .i64 (s : Int)) := by
  have h0 := h
  obtain ⟨h1, ⟨rfl, h2⟩ | ⟨g, cap, cur, rfl, hg, hc, hn, rest⟩⟩ := h
  · have : ns = [] := List.eq_nil_of_length_eq_zero h2
    subst this
    exact ⟨none, 0, rfl, Nat.le_refl _, fun j s hs => by simp at hs⟩
  · refine ⟨_, cap, rfl, hn, fun j s hs => ⟨_, rfl, ?_⟩⟩
    exact h0.cells (g := g) rfl j _ (by simp [hs])
/-- the letters that were seen, and the table of their names -/
def St (g : Nat) (w0 : World) (m : Nat) (cs : List Nat) (sv : Value) (w : World) : Prop :=
  ∃ F, RowI sv cs w ∧ (∀ q, sv.ownBlock = some q → ¬ F q ∧ w0.heap.size ≤ q) ∧ Tab g F (mks m cs) w ∧ (∀ q, F q → w0.heap.size ≤ q) ∧ Below w0.heap.size w0 w
theorem St.below {g : Nat} {w0 w w' : World} {m : Nat} {cs : List Nat} {sv : Value} (h : St g w0 m cs sv w) (hb : Below w.heap.size w w') : St g w0 m cs sv w' := by
  obtain ⟨F, hR, hd, hT, hF, hB⟩ := h
  exact ⟨F, hR.of_block (fun k e => hb.block k (hR.lt k e)), hd, hT.below hb, hF, hB.trans (below_le hb hB.size)⟩
theorem one_string (w : World) (y : Nat) (hy : y < 26) : (convert 41 9 (.slice (some ⟨w.heap.size, 0, none⟩) 1 1)).run Tryd.prog (w.alloc (.cells #[.int .u8 (97 + (y : Int))] 5)) = .ok (.string ⟨#[(97 + y).toUInt8]⟩) (w.alloc (.cells #[.int .u8 (97 + (y : Int))] 5)) := by
  refine run_convert_bytes_back _ _ _ 5 ⟨w.heap.size, 0, none⟩ 1 [(97 + y).toUInt8] Tryd.underlying41 Tryd.underlying5 Tryd.underlying9 ?_
  intro j hj
  match j, hj with
  | 0, _ =>
    simp only [List.getElem_cons_zero]
    rw [toU _ (by omega)]
    simp [Addr.add]
theorem st_put {g m : Nat} {w0 W W2 : World} {cs : List Nat} {sv : Value} {F F' : Nat → Prop} (hR : RowI sv cs W) (hd : ∀ q, sv.ownBlock = some q → ¬ F q ∧ w0.heap.size ≤ q) (hF : ∀ q, F q → w0.heap.size ≤ q) (hB : Below w0.heap.size w0 W)
    (t : Tab g F' (mks m cs) W2) (k : Kept F W W2) (s : ∀ k, F' k → F k ∨ W.heap.size ≤ k) : St g w0 m cs sv W2 := by
  refine ⟨F', hR.of_block (fun q e => k.block q (hR.lt q e) (hd q e).1), fun q e => ⟨fun h => ?_, (hd q e).2⟩, t, fun q h => ?_, hB.trans (k.below hB.size hF)⟩
  · rcases s q h with h | h
    · exact (hd q e).1 h
    · have := hR.lt q e; omega
  · rcases s q h with h | h
    · exact hF q h
    · have := hB.size; omega
theorem infoI : (Tryd.prog.info? 3).map (fun i => (i.zero, i.size, i.bytes)) = some (some (.int .i64 0), 1, 8) := by kernel_rfl
set_option maxRecDepth 4000 in
set_option maxHeartbeats 4000000 in
theorem walk {H : Type} (enc : TypeId × Value → H) (base : Nat) (w : World) (v0 v1 : Value) (d0 d1 : DataW H) (p0 p1 : List MemPlace)
    (o0 : Value.okWide Tryd.prog w .any base 41 v0) (h0 : DataW.Trod enc Tryd.prog w 0 (fun _ => true) true 41 v0 d0 p0)
    (o1 : Value.okWide Tryd.prog w .any base 5 v1) (h1 : DataW.Trod enc Tryd.prog w 0 (fun _ => true) true 5 v1 d1 p1)
    (hT : Tabs w) :
    Calls Tryd.prog 5 #[v0, v1] w fun e w' => e = .returned (.bool true) ∧ Below w.heap.size w w' := by
  obtain ⟨o, l, c, rfl, hLies, hlc, hlm, hsz⟩ := open_u8s o0 h0
  obtain ⟨n, rfl, _, _, hn⟩ := open_int Tryd.underlying5 o1 h1
  have hn : 0 ≤ n ∧ n < 256 := by
    simp [Lit.wf, IntKind.min, IntKind.max, IntKind.bits, IntKind.signed] at hn
    omega
  clear o0 h0 o1 h1
  unfold maxLen at hlm
  obtain ⟨n, rfl⟩ := Int.eq_ofNat_of_zero_le hn.1
  go_enter Tryd.func5, Tryd.ntmps5
  go_wp2_with fail
  refine (awake_w w hT).mono ?_
  rintro e wa ⟨rfl, ba⟩
  by_cases hl60 : l.length ≤ 200
  · have hl60z : decide ((200 : Int) < (l.length : Int)) = false := by simp; omega
    go_wp2_with fail
    refine (new_w wa).mono ?_
    rintro e w1 ⟨rfl, t1, s1, b1⟩
    have hLa := hLies.below ba
    have hTa := hT.below ba
    go_wp2_with fail
    go_loopw [6, 7] (fun s v wr => ∃ k : Nat, s = .string (nm k) ∧ v = .int .i64 (k : Int) ∧ k ≤ n % 200 ∧ wr = w1) (fun _ v _ => n % 200 - (intOf v).toNat)
    case atStart => exact ⟨0, rfl, rfl, Nat.zero_le _, rfl⟩
    case round =>
      obtain ⟨k, rfl, rfl, hk, rfl⟩ := hrel
      by_cases hkl : k < n % 200
      · have hss : ¬ 9223372036854775807 < (nm k).size + 2 := by rw [nm_size]; omega
        have hcc := nm_succ k
        go_wp2
        exact ⟨⟨k + 1, rfl, by go_num, by omega, trivial⟩, by simp [intOf]; omega⟩
      · have hk2 : k < 200 := by omega
        have hS0 : St wa.heap.size wa k [] (.slice none 0 0) wr := ⟨_, World.ownsRow_nil _ _ _ _, by simp [Value.ownBlock], t1, fun q h => by omega, b1⟩
        have Hk := hid' hk
        have hlz : (l.length : Int) ≤ 200 := by omega
        clear t1 s1
        have hkd : decide ((k : Int) < (n : Int) % 200) = false := by simp; omega
        go_wp2_with fail
        clear hkl hk
        go_loopw [8, 9] (fun v8 v9 wr => ∃ (cs : List Nat) (i : Nat), v9 = .int .i64 (i : Int) ∧ i ≤ l.length ∧ Lets cs ∧ St wa.heap.size wa k cs v8 wr) (fun _ v _ => l.length - (intOf v).toNat)
        case atStart => exact ⟨[], 0, rfl, Nat.zero_le _, ⟨List.nodup_nil, by simp⟩, hS0⟩
        case round =>
          obtain ⟨cs, i, rfl, hi, hL, hS⟩ := hrel
          obtain ⟨F, hR, hd, hTb, hF, hB⟩ := id hS
          obtain ⟨o8, c8, rfl, hc8, hL8⟩ := hR.shape
          by_cases hil : i < l.length
          · have hilz : (i : Int) < (l.length : Int) := by omega
            obtain ⟨x, hx⟩ : ∃ x, l[i]? = some x := ⟨l[i], by simp⟩
            obtain ⟨a, rfl, hca⟩ := hLa i x hx
            have hcr : wr.cell? (a.add i) = some (.int .u8 (x : Int)) := (hB.cell (World.block_lt_of_cell? _ _ hca)).trans hca
            have hx2 : x < 256 := hsz x (List.mem_of_getElem? hx)
            have Hx := hid' hx
            clear hx hca
            obtain ⟨y, hy⟩ : ∃ y, x % 26 = y := ⟨_, rfl⟩
            have hy26 : y < 26 := by omega
            have hxy : (y : Int) = (x : Int) % 26 := by omega
            obtain ⟨bt, hbt⟩ : ∃ bt, (97 + y).toUInt8 = bt := ⟨_, rfl⟩
            obtain ⟨S, hSe⟩ : ∃ S, mk k (97 + y) = S := ⟨_, rfl⟩
            have hcv : (convert 41 9 (.slice (some ⟨wr.heap.size, 0, none⟩) 1 1)).run Tryd.prog (wr.alloc (.cells #[.int .u8 (97 + (x : Int) % 26)] 5)) = .ok (.string ⟨#[bt]⟩) (wr.alloc (.cells #[.int .u8 (97 + (x : Int) % 26)] 5)) := by
              rw [← hxy]
              exact hbt ▸ one_string wr y hy26
            have Hxy := hid' hxy
            clear hxy
            have hss : ¬ 9223372036854775807 < (nm k).size + 1 := by rw [nm_size]; omega
            have hcc := nm_mk k (97 + y) (by omega)
            rw [hbt, hSe] at hcc
            have HS := hid' hSe
            clear hbt hSe
            have Hy := hid' hy
            clear hy
            have hbA : Below wr.heap.size wr (wr.alloc (.cells #[.int .u8 (97 + (x : Int) % 26)] 5)) := (Below.refl _ wr).alloc (Nat.le_refl _) _
            have hSA := hS.below hbA
            go_wp2_with fail
            clear hcv hss hcc
            clear hS hR hd hTb hF hB hL8 hcr
            generalize wr.alloc (.cells #[.int .u8 (97 + (x : Int) % 26)] 5) = wb at *
            obtain ⟨F, hR, hd, hTb, hF, hB⟩ := id hSA
            obtain ⟨o8', c8', e8, hc8', hL8⟩ := hR.shape
            injection e8 with e8 e9 e10
            subst e8; subst e10
            have hcr : wb.cell? (a.add i) = some (.int .u8 (x : Int)) := by
              obtain ⟨a', e, hca⟩ := hLa i x Hx.out
              injection e with e
              subst e
              exact (hB.cell (World.block_lt_of_cell? _ _ hca)).trans hca
            have hcs := lets_le hL
            have hcsz : (cs.length : Int) ≤ 26 := by omega
            go_loopw [11, 12] (fun v11 v12 w2 => ∃ (z : Int) (j m : Nat), v11 = .int .i64 z ∧ v12 = .int .i64 (j : Int) ∧ j ≤ cs.length ∧ w2 = wb.drewN m ∧ Hid ((z = -1 ∧ ∀ q : Nat, q < j → cs[q]? ≠ some y) ∨ ∃ q : Nat, z = (q : Int) ∧ cs[q]? = some y)) (fun _ v _ => cs.length - (intOf v).toNat)
            case atStart => exact ⟨-1, 0, 0, rfl, rfl, Nat.zero_le _, rfl, hid' (.inl ⟨rfl, fun q hq => by omega⟩)⟩
            case round =>
              obtain ⟨z, j, m, rfl, rfl, hj, rfl, hH⟩ := hrel
              by_cases hjl : j < cs.length
              · have hjlz : (j : Int) < (cs.length : Int) := by omega
                obtain ⟨q, hq⟩ : ∃ q, cs[j]? = some q := ⟨cs[j], by simp⟩
                obtain ⟨a8, rfl, hc8q⟩ := hL8 j q hq
                have Hq := hid' hq
                clear hq
                have hbd := below_drewN wb m
                have hcr2 : (wb.drewN m).cell? (a.add i) = some (.int .u8 (x : Int)) := hcr
                have hc82 : (wb.drewN m).cell? (a8.add j) = some (.int .i64 (q : Int)) := hc8q
                by_cases hqy : q = y
                · have hqb : ((q : Int) == (x : Int) % 26) = true := by rw [← Hxy.out]; simp [hqy]
                  have Hqy := hid' hqy
                  clear hqy
                  go_wp2_with fail
                  go_quiet (fail)
                  go_wp2
                  go_roundw
                  case rel => exact ⟨(j : Int), j + 1, _, rfl, by go_num, by omega, rfl, hid' (.inr ⟨j, rfl, by rw [Hq.out, Hqy.out]⟩)⟩
                  case measure => simp [intOf]; omega
                · have hqb : ((q : Int) == (x : Int) % 26) = false := by rw [← Hxy.out]; simp; omega
                  have Hqy := hid' hqy
                  clear hqy
                  go_wp2_with fail
                  go_quiet (fail)
                  go_wp2
                  go_roundw
                  case rel =>
                    refine ⟨z, j + 1, _, rfl, by go_num, by omega, rfl, hid' ?_⟩
                    rcases hH.out with ⟨h1, h2⟩ | h
                    · refine .inl ⟨h1, fun p hp => ?_⟩
                      by_cases hpj : p = j
                      · subst hpj; rw [Hq.out]; intro e; injection e with e; exact Hqy.out e
                      · exact h2 p (by omega)
                    · exact .inr h
                  case measure => simp [intOf]; omega
              · have hjlz : ¬ (j : Int) < (cs.length : Int) := by omega
                have hje : j = cs.length := by omega
                have hSj : St wa.heap.size wa k cs (.slice o8 cs.length c8) (wb.drewN m) := hSA.below (below_drewN wb m)
                have hcrj : (wb.drewN m).cell? (a.add i) = some (.int .u8 (x : Int)) := hcr
                clear hSA hR hd hTb hF hB hL8 hcr
                generalize wb.drewN m = W at *
                obtain ⟨F, hR, hd, hTb, hF, hB⟩ := id hSj
                have hzS := HS.out
                have hSs : S.size ≤ 1000000 := by rw [← hzS, mk_size k (97 + y) (by omega)]; omega
                have hq0 : faultZ S.data.toList = 0 := by rw [← hzS]; exact mk_fault k (97 + y) hk2 (by omega)
                have hlm : (mks k cs).length ≤ 1000000 := by rw [mks_length]; omega
                rcases hH.out with ⟨hz1, hno⟩ | ⟨q, hzq, hqy⟩
                · have hmem : y ∉ cs := fun h => by
                    obtain ⟨q, hq⟩ := List.getElem?_of_mem h
                    have hql := (List.getElem?_eq_some_iff.1 hq).1
                    exact hno q (by omega) hq
                  have hps : pos (mks k cs) S = none := by rw [← hzS]; exact pos_not hL (by omega) (fun c hc e => hmem ((show c = y by omega) ▸ hc))
                  have hN : putN (mks k cs) S = (cs.length : Int) := by unfold putN; rw [if_pos hq0, hps, ← mks_length k cs]; rfl
                  have hPL : putL (mks k cs) S = mks k (cs ++ [y]) := by
                    unfold putL; rw [if_pos hq0, hps]
                    show mks k cs ++ [S] = _
                    rw [← hzS]; unfold mks; rw [List.map_append]; rfl
                  have hg : (mks k (cs ++ [y]))[cs.length]? = some S := by rw [← hzS]; exact mks_get k _ _ _ (by simp)
                  have e1 : nameS (mks k (cs ++ [y])) (cs.length : Int) = S := by unfold nameS; simp [List.getD, hg]
                  have e2 : nameB (mks k (cs ++ [y])) (cs.length : Int) = true := by unfold nameB; rw [mks_length]; simp; omega
                  have hL2 := lets_snoc hL hy26 hmem
                  obtain ⟨i0, hi, hy0, hy1, hy2⟩ := info_parts infoI
                  have hxy := Hxy.out
                  subst hz1
                  have hlF : ∀ q, F q → q < W.heap.size := hTb.choose_spec.choose_spec.2.2.2.2.2.2.2
                  have HQ := hid' (And.intro hN (And.intro hPL (And.intro hq0 (And.intro e1 e2))))
                  clear hH hps hN hPL hzS hq0 hg hj hje e1 e2 hno hmem hxy
                  have ga := World.grownBy_alloc W (.cells #[.int .i64 ((x : Int) % 26)] 3) (Value.slice o8 cs.length c8).ownBlock
                  go_wp2_with (at_builtin; refine wpList_append_own_at _ rfl _ _ 42 rfl 0 3 i0 (.int .i64 0) 1 8 Tryd.underlying42 hi hy0 hy1 hy2 rfl (by decide) _ _ _ rfl (World.ownsRow.alloc hR _) ⟨W.heap.size, 0, none⟩ 1 1 [.int .i64 ((x : Int) % 26)] rfl rfl (cell_one_new _ _ _) ?c2 ?c3 ?c4 (Nat.zero_le _) ?_)
                  case c2 => first | rfl | (intro u hu; simp at hu; subst hu; rfl)
                  case c3 => unfold maxLen; omega
                  case c4 => omega
                  intro v' w3 hR3 g3 hnil hat
                  have g23 := ga.trans g3
                  have hR3' : RowI v' (cs ++ [y]) w3 := by
                    have : RowI v' (cs ++ [y]) w3 ↔ w3.ownsRow 0 3 1 v' (cs.length + 1) ((cs.map fun (x : Nat) => Value.int .i64 (x : Int)) ++ [.int .i64 ((x : Int) % 26)]) := by
                      unfold RowI
                      rw [List.map_append, List.length_append, ← Hxy.out]
                      rfl
                    exact this.2 hR3
                  have k3 : Kept (fun q => (Value.slice o8 cs.length c8).ownBlock = some q) W w3 := Kept.of_grown g23 (fun q e => e)
                  have hT3 : Tab wa.heap.size F (mks k cs) w3 := hTb.kept k3 (fun q h e => (hd q e).1 h)
                  have hB3 : Below wa.heap.size wa w3 := hB.trans (k3.below hB.size (fun q e => (hd q e).2))
                  have hd3 : ∀ q, v'.ownBlock = some q → ¬ F q ∧ wa.heap.size ≤ q := fun q e => by
                    rcases hat with e' | e'
                    · exact hd q (by rw [← e', e])
                    · rw [e'] at e
                      injection e with e
                      have hsa : W.heap.size ≤ q := by rw [← e]; simp
                      have := hB.size
                      exact ⟨fun h => by have := hlF q h; omega, by omega⟩
                  obtain ⟨g', cap', rfl⟩ : ∃ g' cap', v' = .slice (some ⟨g', 0, none⟩) (cs.length + 1) cap' := by
                    rcases hR3.2 with ⟨_, h⟩ | ⟨g', cap', _, h, _⟩
                    · omega
                    · exact ⟨g', cap', h⟩
                  clear hR3 g3 hnil hat ga g23 k3 hd hB hR hTb hSj hcrj
                  obtain ⟨hN, hPL, hq0, e1, e2⟩ := HQ.out
                  have c1 := put_w _ F (mks k cs) S w3 hSs hlm hT3 (hTa.below hB3)
                  rw [hN, hPL, hq0] at c1
                  clear hN hPL hq0 HQ
                  go_wp2_with fail
                  refine c1.mono ?_
                  rintro e w4 ⟨rfl, F', tF', kF, sF⟩
                  have c2 := name_w _ F' (mks k (cs ++ [y])) (cs.length : Int) w4 tF'
                  rw [e1, e2] at c2
                  clear c1 e1 e2
                  have c3 := len_w _ F' (mks k (cs ++ [y])) w4 tF'
                  rw [mks_length, List.length_append] at c3
                  have hS2 := st_put hR3' hd3 hF hB3 tF' kF sF
                  clear hR3' hd3 hF hB3 tF' kF sF hT3
                  go_wp2_with fail
                  refine c2.mono ?_
                  rintro e w5 ⟨rfl, rfl⟩
                  go_wp2_with fail
                  refine c3.mono ?_
                  rintro e w5 ⟨rfl, rfl⟩
                  go_wp2
                  exact ⟨⟨cs ++ [y], i + 1, by go_num, by omega, hL2, hS2⟩, by simp [intOf]; omega⟩
                · have hps : pos (mks k cs) S = some q := by rw [← hzS]; exact pos_there hL hy26 hqy
                  have hN : putN (mks k cs) S = (q : Int) := by unfold putN; rw [if_pos hq0, hps]; rfl
                  have hPL : putL (mks k cs) S = mks k cs := by unfold putL; rw [if_pos hq0, hps]; rfl
                  have c1 := put_w _ F (mks k cs) S W hSs hlm hTb (hTa.below hB)
                  rw [hN, hPL, hq0] at c1
                  have hg := mks_get k cs q y hqy
                  rw [hzS] at hg
                  have e1 : nameS (mks k cs) (q : Int) = S := by unfold nameS; simp [List.getD, hg]
                  have hql := (List.getElem?_eq_some_iff.1 hqy).1
                  have e2 : nameB (mks k cs) (q : Int) = true := by unfold nameB; rw [mks_length]; simp; omega
                  subst hzq
                  clear hH hps hN hPL hzS hq0 hg hqy hj hje
                  go_wp2_with fail
                  refine c1.mono ?_
                  rintro e w2 ⟨rfl, F', tF', kF, sF⟩
                  have c2 := name_w _ F' (mks k cs) (q : Int) w2 tF'
                  rw [e1, e2] at c2
                  clear c1 e1 e2
                  have c3 := len_w _ F' (mks k cs) w2 tF'
                  rw [mks_length] at c3
                  have hS2 := st_put hR hd hF hB tF' kF sF
                  clear hR hd hF hB tF' kF sF hTb hSj hcrj
                  go_wp2_with fail
                  refine c2.mono ?_
                  rintro e w3 ⟨rfl, rfl⟩
                  go_wp2_with fail
                  refine c3.mono ?_
                  rintro e w3 ⟨rfl, rfl⟩
                  go_wp2
                  exact ⟨⟨cs, i + 1, by go_num, by omega, hL, hS2⟩, by simp [intOf]; omega⟩
          · have hilz : ¬ (i : Int) < (l.length : Int) := by omega
            obtain ⟨S, hSe⟩ : ∃ S, mk k 65 = S := ⟨_, rfl⟩
            have hss : ¬ 9223372036854775807 < (nm k).size + 1 := by rw [nm_size]; omega
            have hcc : nm k ++ ⟨#[65]⟩ = S := by rw [← hSe]; exact nm_mk k 65 (by omega)
            have hps : pos (mks k cs) S = none := by rw [← hSe]; exact pos_not hL (by omega) (fun c hc e => by omega)
            have hSs : S.size ≤ maxLen := by rw [← hSe, mk_size k 65 (by omega)]; unfold maxLen; omega
            have c1 := find_w _ F (mks k cs) S wr hSs hTb
            unfold findN findB at c1
            rw [hps] at c1
            have c2 := rvalid_w (nm k) wr (by rw [nm_size]; omega) (hTa.below hB)
            rw [nm_valid] at c2
            have BB : Below w.heap.size w wr := ba.trans (below_le hB ba.size)
            clear hps hSe
            go_wp2_with fail
            refine c1.mono ?_
            rintro e w2 ⟨rfl, rfl⟩
            go_wp2_with fail
            refine c2.mono ?_
            rintro e w3 ⟨rfl, b3⟩
            go_wp2
            go_ret
            exact ⟨rfl, BB.trans (below_le b3 BB.size)⟩
  · have hl60z : (200 : Int) < (l.length : Int) := by omega
    go_wp2
    go_ret
    exact ⟨rfl, ba⟩
end Go.Proofs.YtibgdncfahffpaaDoor.atomsOnce
