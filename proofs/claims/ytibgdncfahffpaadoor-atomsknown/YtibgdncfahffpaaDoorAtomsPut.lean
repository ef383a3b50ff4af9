/- Put of package atoms: the name's number, a new one if it has none yet. -/
import Derived.Test.YtibgdncfahffpaaDoorAtomsOps
import Derived.Test.YtibgdncfahffpaaDoorAtomsCount
import Derived.Laws.Cover3
namespace Go.Proofs.YtibgdncfahffpaaDoor
open Go.ChangeShapes Go.WideShapes Go.ChangeAt Go.RowKit Go.Maps Go.Shelf
set_option linter.unusedSimpArgs false
set_option linter.unusedVariables false
theorem fault_w (s : ByteArray) (w : World) (hs : s.size ≤ 9223372036854775807) (hT : Lib.Utf8Tabs 0 1 w) :
    Calls Tryd.prog 15 #[.string s] w fun e w' => e = .returned (.int .i64 (faultZ s.data.toList)) ∧ Below w.heap.size w w' := by
  obtain ⟨R, hR⟩ : ∃ R, faultZ s.data.toList = R := ⟨_, rfl⟩
  rw [hR]
  unfold faultZ at hR
  cases hv : Lib.validD s.data.toList with
  | false =>
    rw [hv, if_neg (by simp)] at hR
    subst hR
    have c1 := valid_w s w hs hT
    rw [hv] at c1
    go_enter Tryd.func15, Tryd.ntmps15
    go_wp2_with fail
    refine c1.mono ?_
    rintro e w1 ⟨rfl, b1⟩
    go_wp2
    go_ret
    exact ⟨rfl, b1⟩
  | true =>
    rw [hv, if_pos rfl] at hR
    have c1 := valid_w s w hs hT
    rw [hv] at c1
    by_cases hc : 255 < countZ s.data.toList
    · rw [if_pos hc] at hR
      subst hR
      go_enter Tryd.func15, Tryd.ntmps15
      go_wp2_with fail
      refine c1.mono ?_
      rintro e w1 ⟨rfl, b1⟩
      go_wp2_with fail
      refine (count_w s w1 hs (Utf8Tabs_below hT b1)).mono ?_
      rintro e w2 ⟨rfl, b2⟩
      go_wp2
      go_ret
      exact ⟨rfl, b1.trans (below_le b2 b1.size)⟩
    · rw [if_neg hc] at hR
      subst hR
      go_enter Tryd.func15, Tryd.ntmps15
      go_wp2_with fail
      refine c1.mono ?_
      rintro e w1 ⟨rfl, b1⟩
      go_wp2_with fail
      refine (count_w s w1 hs (Utf8Tabs_below hT b1)).mono ?_
      rintro e w2 ⟨rfl, b2⟩
      go_wp2
      go_ret
      exact ⟨rfl, b1.trans (below_le b2 b1.size)⟩
theorem eql_map_nil (w : World) (t k e : TypeId) (m : Option Nat) (h : Tryd.prog.underlying t = some (.map k e)) : (binOp .eql t (.map m) (.map none)).run Tryd.prog w = .ok (.bool m.isNone) w := by
  simp only [binOp]
  simp [run_equal_map_nil w t k e m h]
theorem box_ne_map {g b n : Nat} {u v : Value} {D : DataW Unit} {w : World} (h : Box g u v w) (hM : Mp b n D w) : b ≠ g := by
  rintro rfl
  obtain ⟨es, cl, hb, _⟩ := hM
  have := h.1
  simp [World.cell?, hb] at this
theorem row_ne_map {b n : Nat} {v : Value} {ns : List ByteArray} {D : DataW Unit} {w : World} (h : Row v ns w) (hM : Mp b n D w) : v.ownBlock ≠ some b := by
  obtain ⟨es, cl, hb, _⟩ := hM
  obtain ⟨h1, ⟨rfl, _⟩ | ⟨g, cap, cur, rfl, hg, hc, rest⟩⟩ := h
  · simp [Value.ownBlock]
  · intro e
    simp [Value.ownBlock] at e
    subst e
    rw [hb] at hc; injection hc with hc; cases hc
/-- what the tail of add leaves -/
theorem add_end {g bm : Nat} {F : Nat → Prop} {ns : List ByteArray} {s : ByteArray} {sv v' : Value} {D : DataW Unit} {w wA w1 w2 w3 : World}
    (hA : Kept F w wA) (hF : F g) (hFr : ∀ k, sv.ownBlock = some k → F k) (hFm : F bm ∨ w.heap.size ≤ bm) (hlt : ∀ k, F k → k < w.heap.size)
    (b1 : Below wA.heap.size wA w1) (g2 : w1.grownBy w2 (some bm)) (g3 : w2.grownBy w3 sv.ownBlock)
    (hB : Box g (.map (some bm)) sv w3) (hM : Mp bm (ns.length + 1) D w2) (hD : IsD D (ns ++ [s])) (hR : w3.ownsRow 0 9 1 v' (ns.length + 1) (ns.map Value.string ++ [.string s]))
    (hne : sv.ownBlock ≠ some g) (hnm : sv.ownBlock ≠ some bm) (hgm : bm ≠ g) (hat : v'.ownBlock = sv.ownBlock ∨ ∃ k, v'.ownBlock = some k ∧ w2.heap.size ≤ k) (hsz : g < w2.heap.size) :
    ∃ F', Tab g F' (ns ++ [s]) (w3.setCell ⟨g, 1, none⟩ v') ∧ Kept F w (w3.setCell ⟨g, 1, none⟩ v') ∧ ∀ k, F' k → F k ∨ w.heap.size ≤ k := by
  have k12 : Kept (fun k => F k ∨ w.heap.size ≤ k) w1 w2 := Kept.of_grown g2 (fun k e => by injection e with e; subst e; exact hFm)
  have k23 : Kept (fun k => F k ∨ w.heap.size ≤ k) w2 w3 := Kept.of_grown g3 (fun k e => .inl (hFr k e))
  have k34 : Kept (fun k => F k ∨ w.heap.size ≤ k) w3 (w3.setCell ⟨g, 1, none⟩ v') := Kept.of_set w3 (p := ⟨g, 1, none⟩) (.inl hF) v'
  have hK : Kept F w (w3.setCell ⟨g, 1, none⟩ v') := (((hA.then (Kept.of_below (F := F) b1) (fun i h => .inl h)).then k12 (fun i h => h)).then k23 (fun i h => h)).then k34 (fun i h => h)
  have hv : v'.ownBlock ≠ some g := by
    rcases hat with e | ⟨k, e, hk⟩
    · rw [e]; exact hne
    · rw [e]; intro h; injection h with h; omega
  have hR' : Row v' (ns ++ [s]) w3 := by
    unfold Row
    rw [List.map_append, List.length_append]
    exact hR
  have hM3 : Mp bm (ns.length + 1) D w3 := World.ownsMap.kept hM g3 (fun e => hnm e.symm)
  refine ⟨fun k => (F k ∨ w.heap.size ≤ k) ∧ k < (w3.setCell ⟨g, 1, none⟩ v').heap.size, ?_, hK, fun k h => h.1⟩
  have hs4 : (w3.setCell ⟨g, 1, none⟩ v').heap.size = w3.heap.size := by simp
  refine ⟨.map (some bm), v', hB.set1 v', hR'.of_block (fun k e => Below.heap_setCell w3 ⟨g, 1, none⟩ v' k (fun h => hv (by rw [e, h]))), hv, .inr ⟨bm, D, rfl, ?_, hD⟩, ⟨.inl hF, ?_⟩, ?_, ?_, fun k h => h.2⟩
  · rw [List.length_append]
    exact World.ownsMap.setCell hM3 (a := ⟨g, 1, none⟩) hgm v'
  · rw [hs4]; exact hB.lt
  · intro k e
    refine ⟨?_, by rw [hs4]; exact hR'.lt k e⟩
    rcases hat with e' | ⟨j, e', hj⟩
    · exact .inl (hFr k (by rw [← e', e]))
    · right
      rw [e'] at e; injection e with e
      have := hA.size; have := b1.size; have := g2.size
      omega
  · intro b e
    injection e with e; injection e with e; subst e
    exact ⟨hFm, by rw [hs4]; exact hM3.lt⟩
set_option maxHeartbeats 2000000 in
theorem add_w (g : Nat) (F : Nat → Prop) (ns : List ByteArray) (s : ByteArray) (w : World) (hs : s.size ≤ 1000000) (hl : ns.length ≤ 1000000) (hp : pos ns s = none) (h : Tab g F ns w) :
    Calls Tryd.prog 16 #[.pointer (some ⟨g, 0, none⟩), .string s] w fun e w' => e = .returned (.int .i64 (ns.length : Int)) ∧ ∃ F', Tab g F' (ns ++ [s]) w' ∧ Kept F w w' ∧ ∀ k, F' k → F k ∨ w.heap.size ≤ k := by
  obtain ⟨mv, sv, hB, hR, hne, hN, f0, f1, f2, f3⟩ := h
  obtain ⟨o, c, rfl, hc, hL⟩ := hR.shape
  clear hL
  obtain ⟨i0, hi, hy0, hy1, hy2⟩ := info_parts infoS
  have hkey : keyOf Tryd.prog 9 (.string s) = some (.string s.data.toList) := WideMaps.keyOf_string_mk Tryd.underlying9 (by unfold maxLen; omega)
  obtain ⟨c0, c1, z0, z1⟩ := id hB
  have hq : ∀ (w : World) (r : Option Nat), (binOp .eql 44 (.map r) (.map none)).run Tryd.prog w = .ok (.bool r.isNone) w := fun w r => eql_map_nil w _ _ _ r Tryd.underlying44
  rcases hN with ⟨rfl, hns⟩ | ⟨bm, D, rfl, hMA, hDA⟩
  · have hmm := @run_makeMap Tryd.prog
    have hgl := hB.lt
    have hsz : (w.setCell ⟨g, 0, none⟩ (.map (some w.heap.size))).heap.size = w.heap.size := by simp
    have hBA : Box g (.map (some w.heap.size)) (.slice o ns.length c) ((w.setCell ⟨g, 0, none⟩ (.map (some w.heap.size))).alloc (.map #[] 0)) := (hB.set0 _).of_block (Below.heap_alloc _ _ g (by rw [hsz]; exact hB.lt))
    have hRA : Row (.slice o ns.length c) ns ((w.setCell ⟨g, 0, none⟩ (.map (some w.heap.size))).alloc (.map #[] 0)) := hR.of_block (fun k e => (Below.heap_alloc _ _ k (by rw [hsz]; exact hR.lt k e)).trans (Below.heap_setCell _ _ _ k (fun h => hne (by rw [e, h]))))
    have hMA : Mp w.heap.size ns.length (.map []) ((w.setCell ⟨g, 0, none⟩ (.map (some w.heap.size))).alloc (.map #[] 0)) := by
      have := World.ownsMap_made (H := Unit) (w.setCell ⟨g, 0, none⟩ (.map (some w.heap.size))) Tryd.prog 9 (plainElem Tryd.prog 3)
      rw [hsz] at this
      exact World.ownsMap.mono this (Nat.zero_le _)
    have hDA : IsD (.map []) ns := by rw [hns]; exact IsD.nil
    clear hns hsz
    have hKA : Kept F w ((w.setCell ⟨g, 0, none⟩ (.map (some w.heap.size))).alloc (.map #[] 0)) := (Kept.of_set w (p := ⟨g, 0, none⟩) f0 _).trans (Kept.of_alloc _ _)
    have hFm : F w.heap.size ∨ w.heap.size ≤ w.heap.size := .inr (Nat.le_refl _)
    go_enter Tryd.func16, Tryd.ntmps16
    (
      have hlt : ns.length < maxLen := by unfold maxLen; omega
      have hwf : (Lit.int .i64 (ns.length : Int)).wf = true := WalkArith.wf_i64 ⟨by omega, by omega⟩
      go_wp2_with fail
      refine (clone_w s _ (by omega)).mono ?_
      rintro e w1 ⟨rfl, b1⟩
      have hB1 := hBA.of_block (b1.block g hBA.lt)
      have hM1 : Mp w.heap.size ns.length (.map []) w1 := by obtain ⟨es, cl, h1, h2⟩ := hMA; exact ⟨es, cl, (b1.block w.heap.size (Array.getElem?_eq_some_iff.1 h1).1).trans h1, h2⟩
      have hR1 : Row (.slice o ns.length c) ns w1 := hRA.of_block (fun k e => b1.block k (hRA.lt k e))
      obtain ⟨p0, p1, q0, q1⟩ := id hB1
      go_wp2_with (at_mapUpdate; refine wpList_mapUpdate_own _ rfl _ _ _ 44 rfl 9 3 law Tryd.underlying44 _ w.heap.size _ _ rfl hM1 hlt _ _ _ rfl rfl hkey _ [] (plainElem_int Tryd.underlying3 hwf) ?_)
      intro w2 hM2 g2
      have hB2 := hB1.of_block (g2.block g hB1.lt (by simpa using (Ne.symm (box_ne_map hB1 hM1))))
      have hR2 : Row (.slice o ns.length c) ns w2 := hR1.of_block (fun k e => g2.block k (hR1.lt k e) (fun h => row_ne_map hR1 hM1 (by rw [e, h])))
      clear p0 p1 q0 q1
      obtain ⟨p0, p1, q0, q1⟩ := id hB2
      have ga := World.grownBy_alloc w2 (.cells #[.string s] 9) (Value.slice o ns.length c).ownBlock
      go_wp2_with (at_builtin; refine wpList_append_own_at _ rfl _ _ 32 rfl 0 9 i0 (.string ByteArray.empty) 1 16 Tryd.underlying32 hi hy0 hy1 hy2 rfl (by decide) _ _ _ rfl (World.ownsRow.alloc hR2 _) ⟨w2.heap.size, 0, none⟩ 1 1 [.string s] rfl rfl (cell_one_new _ _ _) ?c2 ?c3 ?c4 (Nat.zero_le _) ?_)
      case c2 => intro u hu; simp at hu; subst hu; rfl
      case c3 => unfold maxLen; omega
      case c4 => omega
      intro v' w3 hR3 g3 hnil hat
      have g23 := ga.trans g3
      have hB3 := hB2.of_block (g23.block g hB2.lt (by simpa using (Ne.symm hne)))
      clear p0 p1 q0 q1
      obtain ⟨p0, p1, q0, q1⟩ := id hB3
      obtain ⟨g', cap', rfl⟩ : ∃ g' cap', v' = .slice (some ⟨g', 0, none⟩) (ns.length + 1) cap' := by
        rcases hR3.2 with ⟨_, h⟩ | ⟨g', cap', _, h, _⟩
        · omega
        · exact ⟨g', cap', h⟩
      go_wp2
      go_ret
      refine ⟨rfl, add_end hKA f0 f1 hFm f3 b1 g2 g23 hB3 hM2 (IsD.put hDA (World.ownsMap.isMap hM1) hp) hR3 hne (row_ne_map hRA hMA) (box_ne_map hBA hMA) (hat.imp id (fun h => ⟨_, h, by simp⟩)) hB2.lt⟩)
  · have hKA : Kept F w w := Kept.refl F w
    have hFm : F bm ∨ w.heap.size ≤ bm := .inl (f2 bm rfl)
    have hBA := hB
    have hRA := hR
    go_enter Tryd.func16, Tryd.ntmps16
    (
      have hlt : ns.length < maxLen := by unfold maxLen; omega
      have hwf : (Lit.int .i64 (ns.length : Int)).wf = true := WalkArith.wf_i64 ⟨by omega, by omega⟩
      go_wp2_with fail
      refine (clone_w s _ (by omega)).mono ?_
      rintro e w1 ⟨rfl, b1⟩
      have hB1 := hBA.of_block (b1.block g hBA.lt)
      have hM1 : Mp bm ns.length D w1 := by obtain ⟨es, cl, h1, h2⟩ := hMA; exact ⟨es, cl, (b1.block bm (Array.getElem?_eq_some_iff.1 h1).1).trans h1, h2⟩
      have hR1 : Row (.slice o ns.length c) ns w1 := hRA.of_block (fun k e => b1.block k (hRA.lt k e))
      obtain ⟨p0, p1, q0, q1⟩ := id hB1
      go_wp2_with (at_mapUpdate; refine wpList_mapUpdate_own _ rfl _ _ _ 44 rfl 9 3 law Tryd.underlying44 _ bm _ _ rfl hM1 hlt _ _ _ rfl rfl hkey _ [] (plainElem_int Tryd.underlying3 hwf) ?_)
      intro w2 hM2 g2
      have hB2 := hB1.of_block (g2.block g hB1.lt (by simpa using (Ne.symm (box_ne_map hB1 hM1))))
      have hR2 : Row (.slice o ns.length c) ns w2 := hR1.of_block (fun k e => g2.block k (hR1.lt k e) (fun h => row_ne_map hR1 hM1 (by rw [e, h])))
      clear p0 p1 q0 q1
      obtain ⟨p0, p1, q0, q1⟩ := id hB2
      have ga := World.grownBy_alloc w2 (.cells #[.string s] 9) (Value.slice o ns.length c).ownBlock
      go_wp2_with (at_builtin; refine wpList_append_own_at _ rfl _ _ 32 rfl 0 9 i0 (.string ByteArray.empty) 1 16 Tryd.underlying32 hi hy0 hy1 hy2 rfl (by decide) _ _ _ rfl (World.ownsRow.alloc hR2 _) ⟨w2.heap.size, 0, none⟩ 1 1 [.string s] rfl rfl (cell_one_new _ _ _) ?c2 ?c3 ?c4 (Nat.zero_le _) ?_)
      case c2 => intro u hu; simp at hu; subst hu; rfl
      case c3 => unfold maxLen; omega
      case c4 => omega
      intro v' w3 hR3 g3 hnil hat
      have g23 := ga.trans g3
      have hB3 := hB2.of_block (g23.block g hB2.lt (by simpa using (Ne.symm hne)))
      clear p0 p1 q0 q1
      obtain ⟨p0, p1, q0, q1⟩ := id hB3
      obtain ⟨g', cap', rfl⟩ : ∃ g' cap', v' = .slice (some ⟨g', 0, none⟩) (ns.length + 1) cap' := by
        rcases hR3.2 with ⟨_, h⟩ | ⟨g', cap', _, h, _⟩
        · omega
        · exact ⟨g', cap', h⟩
      go_wp2
      go_ret
      refine ⟨rfl, add_end hKA f0 f1 hFm f3 b1 g2 g23 hB3 hM2 (IsD.put hDA (World.ownsMap.isMap hM1) hp) hR3 hne (row_ne_map hRA hMA) (box_ne_map hBA hMA) (hat.imp id (fun h => ⟨_, h, by simp⟩)) hB2.lt⟩)
set_option maxRecDepth 100000 in
set_option maxHeartbeats 1000000 in
theorem put_w (g : Nat) (F : Nat → Prop) (ns : List ByteArray) (s : ByteArray) (w : World) (hs : s.size ≤ 1000000) (hl : ns.length ≤ 1000000) (h : Tab g F ns w) (hT : Lib.Utf8Tabs 0 1 w) :
    Calls Tryd.prog 8 #[.pointer (some ⟨g, 0, none⟩), .string s] w fun e w' => e = .returned (.tuple #[.int .i64 (putN ns s), .int .i64 (faultZ s.data.toList)]) ∧ ∃ F', Tab g F' (putL ns s) w' ∧ Kept F w w' ∧ ∀ k, F' k → F k ∨ w.heap.size ≤ k := by
  have hkey : keyOf Tryd.prog 9 (.string s) = some (.string s.data.toList) := WideMaps.keyOf_string_mk Tryd.underlying9 (by unfold maxLen; omega)
  have cf := fault_w s w (by omega) hT
  obtain ⟨N, hN⟩ : ∃ N, putN ns s = N := ⟨_, rfl⟩
  obtain ⟨L, hL⟩ : ∃ L, putL ns s = L := ⟨_, rfl⟩
  rw [hN, hL]
  unfold putN at hN
  unfold putL at hL
  obtain ⟨Z, hZ⟩ : ∃ Z, faultZ s.data.toList = Z := ⟨_, rfl⟩
  rw [hZ] at cf hN hL ⊢
  by_cases h0 : Z = 0
  · subst h0
    rw [if_pos rfl] at hN hL
    have HN := hid' (And.intro hN (And.intro hL hZ))
    clear hN hL hZ
    go_enter Tryd.func8, Tryd.ntmps8
    go_wp2_with fail
    refine cf.mono ?_
    rintro e w1 ⟨rfl, b1⟩
    have h1 := h.below b1
    have hK1 : Kept F w w1 := Kept.of_below b1
    obtain ⟨mv, sv, hB, hR, hne, hNu, f0, f1, f2, f3⟩ := id h1
    obtain ⟨c0, c1, z0, z1⟩ := hB
    obtain ⟨o, c, rfl, hc, hLc⟩ := hR.shape
    clear hLc
    rcases hNu with ⟨rfl, hns⟩ | ⟨bm, D, rfl, hM, hD⟩
    · have hnil := fun (w : World) => Maps.look_nil (w := w) true law Tryd.underlying44 (zeroE w) hkey
      have hp : pos ns s = none := by rw [hns]; rfl
      have HP := hid' hp
      clear hns hp
      have hlz : decide ((1048576 : Int) ≤ (ns.length : Int)) = false := by simp; omega
      have HL := hid' hl
      clear hl
      go_wp2_with fail
      refine (add_w g F ns s w1 hs HL.out HP.out h1).mono ?_
      rintro e w2 ⟨rfl, F', hT', hK', hF'⟩
      go_wp2
      go_ret2
      obtain ⟨q1, q2, _⟩ := HN.out
      rw [HP.out] at q1 q2
      subst q1; subst q2
      exact ⟨rfl, F', hT', hK1.then hK' (fun i h => .inl h), fun k hk => (hF' k hk).imp id (fun h => Nat.le_trans b1.size h)⟩
    · obtain ⟨hd1, hd2⟩ := hD s
      cases hps : pos ns s with
      | none =>
        have HP := hid' hps
        rw [hps] at hd1 hd2
        clear hps
        have hlz : decide ((1048576 : Int) ≤ (ns.length : Int)) = false := by simp; omega
        have HL := hid' hl
        clear hl
        have Hd2 := hid' hd2
        clear hd2
        go_wp2_with (at_lookup; refine wpList_lookup_own_ok_int _ rfl _ _ 44 rfl 9 3 .i64 law Tryd.underlying44 Tryd.underlying3 (zeroE _) bm _ D rfl hM _ _ rfl hkey ?_)
        intro c' hat hwc
        go_wp2_with fail
        refine (add_w g F ns s w1 hs HL.out HP.out h1).mono ?_
        rintro e w2 ⟨rfl, F', hT', hK', hF'⟩
        go_wp2
        go_ret2
        obtain ⟨q1, q2, _⟩ := HN.out
        rw [HP.out] at q1 q2
        subst q1; subst q2
        exact ⟨rfl, F', hT', hK1.then hK' (fun i h => .inl h), fun k hk => (hF' k hk).imp id (fun h => Nat.le_trans b1.size h)⟩
      | some i =>
        have HP := hid' hps
        rw [hps] at hd1 hd2
        clear hps
        have Hd2 := hid' hd2
        clear hd2
        go_wp2_with (at_lookup; refine wpList_lookup_own_ok_int _ rfl _ _ 44 rfl 9 3 .i64 law Tryd.underlying44 Tryd.underlying3 (zeroE _) bm _ D rfl hM _ _ rfl hkey ?_)
        intro c' hat hwc
        have hce := Hd2.out
        rw [hat] at hce
        injection hce with hce
        injection hce with _ hce
        subst hce
        clear hat
        go_wp2
        go_ret2
        obtain ⟨q1, q2, _⟩ := HN.out
        rw [HP.out] at q1 q2
        subst q1; subst q2
        exact ⟨rfl, F, h1, hK1, fun k hk => .inl hk⟩
  · rw [if_neg h0] at hN hL
    subst hN; subst hL
    have hzb : (Z != 0) = true := by simp [h0]
    clear h0 hZ
    go_enter Tryd.func8, Tryd.ntmps8
    go_wp2_with fail
    refine cf.mono ?_
    rintro e w1 ⟨rfl, b1⟩
    go_wp2
    go_ret2
    exact ⟨rfl, F, h.below b1, Kept.of_below b1, fun k hk => .inl hk⟩
end Go.Proofs.YtibgdncfahffpaaDoor
