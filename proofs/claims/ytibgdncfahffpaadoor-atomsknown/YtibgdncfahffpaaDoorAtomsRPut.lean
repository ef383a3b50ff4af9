/- Put of the reference: the name's number, a new one if it has none yet. -/
import Derived.Test.YtibgdncfahffpaaDoorAtomsPut
namespace Go.Proofs.YtibgdncfahffpaaDoor
open Go.ChangeShapes Go.WideShapes Go.ChangeAt Go.RowKit Go.Maps Go.Shelf
set_option linter.unusedSimpArgs false
set_option linter.unusedVariables false
abbrev Tabs (w : World) : Prop := Lib.Utf8Tabs 0 1 w
theorem Tabs.below {w w' : World} (h : Tabs w) (hb : Below w.heap.size w w') : Tabs w' := Utf8Tabs_below h hb
theorem Nam.new (w : World) : Nam w.heap.size (fun k => k = w.heap.size) [] (w.alloc (.cells #[.slice none 0 0] 35)) :=
  ⟨_, by rw [World.cell?_alloc_mark]; rfl, by rw [World.frozen?_alloc_mark]; simp, World.ownsRow_nil _ _ _ _, by simp [Value.ownBlock], rfl, by simp [Value.ownBlock], fun k hk => by simp; omega⟩
theorem rput_end {g : Nat} {F : Nat → Prop} {ns : List ByteArray} {s : ByteArray} {sv v' : Value} {w w2 w3 : World}
    (hA : Kept F w w2) (hF : F g) (hFr : ∀ k, sv.ownBlock = some k → F k) (g3 : w2.grownBy w3 sv.ownBlock)
    (hc : w3.cell? ⟨g, 0, none⟩ = some sv) (hf : w3.frozen? ⟨g, 0, none⟩ = false) (hR : w3.ownsRow 0 9 1 v' (ns.length + 1) (ns.map Value.string ++ [.string s]))
    (hne : sv.ownBlock ≠ some g) (hat : v'.ownBlock = sv.ownBlock ∨ ∃ k, v'.ownBlock = some k ∧ w2.heap.size ≤ k) (hsz : g < w2.heap.size) :
    ∃ F', Nam g F' (ns ++ [s]) (w3.setCell ⟨g, 0, none⟩ v') ∧ Kept F w (w3.setCell ⟨g, 0, none⟩ v') ∧ ∀ k, F' k → F k ∨ w.heap.size ≤ k := by
  have k23 : Kept F w2 w3 := Kept.of_grown g3 (fun k e => hFr k e)
  have k34 : Kept F w3 (w3.setCell ⟨g, 0, none⟩ v') := Kept.of_set w3 (p := ⟨g, 0, none⟩) hF v'
  have hK : Kept F w (w3.setCell ⟨g, 0, none⟩ v') := (hA.trans k23).trans k34
  have hv : v'.ownBlock ≠ some g := by
    rcases hat with e | ⟨k, e, hk⟩
    · rw [e]; exact hne
    · rw [e]; intro h; injection h with h; omega
  have hR' : Row v' (ns ++ [s]) w3 := by
    unfold Row
    rw [List.map_append, List.length_append]
    exact hR
  have hs4 : (w3.setCell ⟨g, 0, none⟩ v').heap.size = w3.heap.size := by simp
  refine ⟨fun k => (F k ∨ w.heap.size ≤ k) ∧ k < (w3.setCell ⟨g, 0, none⟩ v').heap.size, ?_, hK, fun k h => h.1⟩
  refine ⟨v', World.cell?_setCell_same _ _ _ hc, (World.frozen?_setCells g [v'] 0 w3 ⟨g, 0, none⟩).trans hf, hR'.of_block (fun k e => Below.heap_setCell w3 ⟨g, 0, none⟩ v' k (fun h => hv (by rw [e, h]))), hv, ⟨.inl hF, ?_⟩, ?_, fun k h => h.2⟩
  · rw [hs4]; exact World.block_lt_of_cell? _ _ hc
  · intro k e
    refine ⟨?_, by rw [hs4]; exact hR'.lt k e⟩
    rcases hat with e' | ⟨j, e', hj⟩
    · exact .inl (hFr k (by rw [← e', e]))
    · right
      rw [e'] at e; injection e with e
      have := hA.size
      omega
set_option maxRecDepth 100000 in
set_option maxHeartbeats 1000000 in
theorem rput_w (g : Nat) (F : Nat → Prop) (ns : List ByteArray) (s : ByteArray) (w : World) (hs : s.size ≤ 1000000) (hl : ns.length ≤ 1000000) (h : Nam g F ns w) (hT : Tabs w) :
    Calls Tryd.prog 11 #[.pointer (some ⟨g, 0, none⟩), .string s] w fun e w' => e = .returned (.tuple #[.int .i64 (putN ns s), .int .i64 (faultZ s.data.toList)]) ∧ ∃ F', Nam g F' (putL ns s) w' ∧ Kept F w w' ∧ ∀ k, F' k → F k ∨ w.heap.size ≤ k := by
  obtain ⟨i0, hi, hy0, hy1, hy2⟩ := info_parts infoS
  have cv := rvalid_w s w (by omega) hT
  obtain ⟨N, hN⟩ : ∃ N, putN ns s = N := ⟨_, rfl⟩
  obtain ⟨L, hL⟩ : ∃ L, putL ns s = L := ⟨_, rfl⟩
  obtain ⟨Z, hZ⟩ : ∃ Z, faultZ s.data.toList = Z := ⟨_, rfl⟩
  rw [hN, hL, hZ]
  unfold putN at hN
  unfold putL at hL
  rw [hZ] at hN hL
  have HN := hid' (And.intro hN hL)
  clear hN hL
  unfold faultZ at hZ
  cases hv : Lib.validD s.data.toList with
  | false =>
    rw [hv, if_neg (by simp)] at hZ
    subst hZ
    rw [hv] at cv
    go_enter Tryd.func11, Tryd.ntmps11
    go_wp2_with fail
    refine cv.mono ?_
    rintro e w1 ⟨rfl, b1⟩
    go_wp2
    go_ret2
    obtain ⟨q1, q2⟩ := HN.out
    rw [if_neg (by decide)] at q1 q2
    subst q1; subst q2
    exact ⟨rfl, F, h.below b1, Kept.of_below b1, fun k hk => .inl hk⟩
  | true =>
    rw [hv, if_pos rfl] at hZ
    rw [hv] at cv
    by_cases hcnt : 255 < countZ s.data.toList
    · rw [if_pos hcnt] at hZ
      subst hZ
      go_enter Tryd.func11, Tryd.ntmps11
      go_wp2_with fail
      refine cv.mono ?_
      rintro e w1 ⟨rfl, b1⟩
      go_wp2_with fail
      refine (rcount_w s w1 (by omega) (hT.below b1)).mono ?_
      rintro e w2 ⟨rfl, b2⟩
      have B2 : Below w.heap.size w w2 := b1.trans (below_le b2 b1.size)
      go_wp2
      go_ret2
      obtain ⟨q1, q2⟩ := HN.out
      rw [if_neg (by decide)] at q1 q2
      subst q1; subst q2
      exact ⟨rfl, F, h.below B2, Kept.of_below B2, fun k hk => .inl hk⟩
    · rw [if_neg hcnt] at hZ
      subst hZ
      go_enter Tryd.func11, Tryd.ntmps11
      go_wp2_with fail
      refine cv.mono ?_
      rintro e w1 ⟨rfl, b1⟩
      go_wp2_with fail
      refine (rcount_w s w1 (by omega) (hT.below b1)).mono ?_
      rintro e w2 ⟨rfl, b2⟩
      have B2 : Below w.heap.size w w2 := b1.trans (below_le b2 b1.size)
      have h2 := h.below B2
      have cf := rfind_w g F ns s w2 hl h2
      unfold findN findB at cf
      cases hps : pos ns s with
      | some i =>
        rw [hps] at cf
        have HP := hid' hps
        clear hps
        go_wp2_with fail
        refine cf.mono ?_
        rintro e w3 ⟨rfl, rfl⟩
        go_wp2
        go_ret2
        obtain ⟨q1, q2⟩ := HN.out
        simp [HP.out] at q1 q2
        subst q1; subst q2
        exact ⟨rfl, F, h2, Kept.of_below B2, fun k hk => .inl hk⟩
      | none =>
        rw [hps] at cf
        have HP := hid' hps
        clear hps
        obtain ⟨sv, c0, z0, hR, hne, f0, f1, f3⟩ := h2
        obtain ⟨o, c, rfl, hc, hLc⟩ := hR.shape
        clear hLc
        have hlz : decide ((1048576 : Int) ≤ (ns.length : Int)) = false := by simp; omega
        have HL := hid' hl
        clear hl
        have hgl : g < w2.heap.size := World.block_lt_of_cell? _ _ c0
        have ga := World.grownBy_alloc w2 (.cells #[.string s] 9) (Value.slice o ns.length c).ownBlock
        go_wp2_with fail
        refine cf.mono ?_
        rintro e w3 ⟨rfl, rfl⟩
        go_wp2_with (at_builtin; refine wpList_append_own_at _ rfl _ _ 32 rfl 0 9 i0 (.string ByteArray.empty) 1 16 Tryd.underlying32 hi hy0 hy1 hy2 rfl (by decide) _ _ _ rfl (World.ownsRow.alloc hR _) ⟨w2.heap.size, 0, none⟩ 1 1 [.string s] rfl rfl (cell_one_new _ _ _) ?c2 ?c3 ?c4 (Nat.zero_le _) ?_)
        case c2 => intro u hu; simp at hu; subst hu; rfl
        case c3 => have := HL.out; unfold maxLen; omega
        case c4 => have := HL.out; omega
        intro v' w3 hR3 g3 hnil hat
        have g23 := ga.trans g3
        have c3 : w3.cell? ⟨g, 0, none⟩ = some (.slice o ns.length c) := g23.cell c0 (by simpa using (Ne.symm hne))
        have z3 : w3.frozen? ⟨g, 0, none⟩ = false := (World.frozen?_of_block (a := ⟨g, 0, none⟩) (g23.block g hgl (by simpa using (Ne.symm hne)))).trans z0
        obtain ⟨g', cap', rfl⟩ : ∃ g' cap', v' = .slice (some ⟨g', 0, none⟩) (ns.length + 1) cap' := by
          rcases hR3.2 with ⟨_, h⟩ | ⟨g', cap', _, h, _⟩
          · omega
          · exact ⟨g', cap', h⟩
        go_wp2
        go_ret2
        obtain ⟨q1, q2⟩ := HN.out
        simp [HP.out] at q1 q2
        subst q1; subst q2
        have hll := HL.out
        exact ⟨by simp [show wrap64 (ns.length : Int) = (ns.length : Int) by unfold wrap64; omega], rput_end (Kept.of_below B2) f0 f1 g23 c3 z3 hR3 hne (hat.imp id (fun h => ⟨_, h, by simp⟩)) hgl⟩
end Go.Proofs.YtibgdncfahffpaaDoor
