/- AtomsPlays, walked: whatever names are put, and whatever number is asked for, it answers true. -/
import Derived.Test.YtibgdncfahffpaaDoorAtomsOpen
import Derived.Deep.QuietTactic
import Derived.BigQuiet
namespace Go.Proofs.YtibgdncfahffpaaDoor.atomsPlays
open Go.ChangeShapes Go.WideShapes Go.ChangeAt Go.ChangeMaps Go.RowKit Go.Maps Go.Shelf
set_option linter.unusedSimpArgs false
set_option linter.unusedVariables false
theorem len_q (g : Nat) (F : Nat → Prop) (ns : List ByteArray) (w : World) (h : Tab g F ns w) :
    Calls Tryd.prog 12 #[.pointer (some ⟨g, 0, none⟩)] w fun e w' => e = .returned (.int .i64 (ns.length : Int)) ∧ w' = w := (len_w g F ns w h).mono fun e w' h => ⟨h.1, h.2.symm⟩
theorem fault0 {l : List UInt8} (h : faultZ l = 0) : Lib.validD l = true := by
  unfold faultZ at h
  by_cases hv : Lib.validD l = true
  · exact hv
  · rw [if_neg hv] at h; omega
def OkS (x : ByteArray) : Prop := Lib.validD x.data.toList = true ∧ x.size ≤ 2000
theorem putL_valid {ns : List ByteArray} {s : ByteArray} (h : ∀ x ∈ ns, OkS x) (hs : s.size ≤ 2000) : ∀ x ∈ putL ns s, OkS x := by
  unfold putL
  split
  · rename_i h0
    split
    · exact h
    · intro x hx
      rcases List.mem_append.1 hx with hx | hx
      · exact h x hx
      · simp at hx; subst hx; exact ⟨fault0 h0, hs⟩
  · exact h
/-- both tables hold the same names -/
def Both (g gm : Nat) (w0 : World) (ns : List ByteArray) (w : World) : Prop :=
  ∃ F G, Tab g F ns w ∧ Nam gm G ns w ∧ (∀ k, F k → G k → False) ∧ (∀ k, F k → w0.heap.size ≤ k) ∧ (∀ k, G k → w0.heap.size ≤ k) ∧ Below w0.heap.size w0 w ∧ ∀ x ∈ ns, OkS x
theorem Both.put {g gm : Nat} {w0 w w' w'' : World} {ns : List ByteArray} {s : ByteArray} {F G F' G' : Nat → Prop}
    (tG : Nam gm G ns w) (d : ∀ k, F k → G k → False) (lF : ∀ k, F k → w0.heap.size ≤ k) (lG : ∀ k, G k → w0.heap.size ≤ k) (b : Below w0.heap.size w0 w) (hv : ∀ x ∈ ns, OkS x) (hs : s.size ≤ 2000)
    (tF' : Tab g F' (putL ns s) w') (kF : Kept F w w') (sF : ∀ k, F' k → F k ∨ w.heap.size ≤ k)
    (tG' : Nam gm G' (putL ns s) w'') (kG : Kept G w' w'') (sG : ∀ k, G' k → G k ∨ w'.heap.size ≤ k) : Both g gm w0 (putL ns s) w'' := by
  have ltF : ∀ k, F' k → k < w'.heap.size := tF'.choose_spec.choose_spec.2.2.2.2.2.2.2
  have ltG : ∀ k, G k → k < w.heap.size := tG.choose_spec.2.2.2.2.2.2
  refine ⟨F', G', tF'.kept kG (fun k h h' => ?_), tG', fun k h h' => ?_, fun k h => ?_, fun k h => ?_, (b.trans (kF.below b.size lF)).trans (kG.below (Nat.le_trans b.size kF.size) lG), putL_valid hv hs⟩
  · rcases sF k h with h | h
    · exact d k h h'
    · have := ltG k h'; omega
  · rcases sG k h' with h' | h'
    · rcases sF k h with h | h
      · exact d k h h'
      · have := ltG k h'; omega
    · have := ltF k h; omega
  · rcases sF k h with h | h
    · exact lF k h
    · have := b.size; omega
  · rcases sG k h with h | h
    · exact lG k h
    · have := b.size; have := kF.size; omega
set_option maxRecDepth 4000 in
set_option maxHeartbeats 4000000 in
theorem walk {H : Type} (enc : TypeId × Value → H) (base : Nat) (w : World) (v0 v1 : Value) (d0 d1 : DataW H) (p0 p1 : List MemPlace)
    (o0 : Value.okWide Tryd.prog w .any base 32 v0) (h0 : DataW.Trod enc Tryd.prog w 0 (fun _ => true) true 32 v0 d0 p0)
    (o1 : Value.okWide Tryd.prog w .any base 3 v1) (h1 : DataW.Trod enc Tryd.prog w 0 (fun _ => true) true 3 v1 d1 p1)
    (hT : Tabs w) :
    Calls Tryd.prog 4 #[v0, v1] w fun e w' => e = .returned (.bool true) ∧ Below w.heap.size w w' := by
  obtain ⟨o, l, c, rfl, hLies, hlc, hlm, hsz⟩ := open_texts o0 h0
  obtain ⟨n, rfl, _⟩ := open_int Tryd.underlying3 o1 h1
  clear o0 h0 o1 h1
  unfold maxLen at hlm
  go_enter Tryd.func4, Tryd.ntmps4
  go_wp2_with fail
  refine (awake_w w hT).mono ?_
  rintro e wa ⟨rfl, ba⟩
  by_cases hl60 : l.length ≤ 60
  · have hl60z : ¬ (60 : Int) < (l.length : Int) := by omega
    go_wp2_with fail
    refine (new_w wa).mono ?_
    rintro e w1 ⟨rfl, t1, s1, b1⟩
    have hLa := hLies.below ba
    have hTa := hT.below ba
    have hB1 : Both wa.heap.size w1.heap.size wa [] (w1.alloc (.cells #[.slice none 0 0] 35)) :=
      ⟨_, _, t1.below ((Below.refl _ w1).alloc (Nat.le_refl _) _), Nam.new w1, fun k h h' => by omega, fun k h => by omega, fun k h => by omega, b1.alloc b1.size _, by simp⟩
    clear t1
    have hlz : (l.length : Int) ≤ 60 := by omega
    clear s1
    go_wp2_with fail
    go_loopw [7] (fun v wr => ∃ (k : Nat) (ns : List ByteArray), v = .int .i64 (k : Int) ∧ k ≤ l.length ∧ ns.length ≤ k ∧ Both wa.heap.size w1.heap.size wa ns wr) (fun v _ => l.length - (intOf v).toNat)
    case atStart => exact ⟨0, [], rfl, Nat.zero_le _, Nat.le_refl _, hB1⟩
    case round =>
      obtain ⟨k, ns, rfl, hk, hnk, F, G, tF, tG, hd, lF, lG, bw, hv⟩ := hrel
      have Hv := hid' hv
      clear hv
      by_cases hkl : k < l.length
      · have hklz : (k : Int) < (l.length : Int) := by omega
        obtain ⟨s, hs⟩ : ∃ s, l[k]? = some s := ⟨l[k], by simp⟩
        obtain ⟨a, rfl, hca⟩ := hLa k s hs
        have hcr : wr.cell? (a.add k) = some (.string s) := (bw.cell (World.block_lt_of_cell? _ _ hca)).trans hca
        have Hs := hid' hs
        clear hs hca
        by_cases hs2 : s.size ≤ 2000
        · have hs2z : ¬ (2000 : Int) < (s.size : Int) := by omega
          have c1 := put_w _ F ns s wr (by omega) (by omega) tF (hTa.below bw)
          obtain ⟨N, hN⟩ : ∃ N, putN ns s = N := ⟨_, rfl⟩
          obtain ⟨Z, hZ⟩ : ∃ Z, faultZ s.data.toList = Z := ⟨_, rfl⟩
          rw [hN, hZ] at c1
          go_wp2_with fail
          refine c1.mono ?_
          rintro e w2 ⟨rfl, F', tF', kF, sF⟩
          have bw2 : Below wa.heap.size wa w2 := bw.trans (kF.below bw.size lF)
          have hc2 : w2.cell? (a.add k) = some (.string s) := by
            obtain ⟨a', e, hca⟩ := hLa k s Hs.out
            injection e with e
            subst e
            exact (bw2.cell (World.block_lt_of_cell? _ _ hca)).trans hca
          have tG2 := tG.kept kF (fun k h h' => hd k h' h)
          have c2 := rput_w _ G ns s w2 (by omega) (by omega) tG2 (hTa.below bw2)
          rw [hN, hZ] at c2
          clear hN hZ c1
          go_wp2_with fail
          refine c2.mono ?_
          rintro e w3 ⟨rfl, G', tG', kG, sG⟩
          have hB := Both.put tG hd lF lG bw Hv.out hs2 tF' kF sF tG' kG sG
          have hLn := putL_length ns s
          have tF3 : Tab wa.heap.size F' (putL ns s) w3 := by
            refine tF'.kept kG (fun k h h' => ?_)
            have ltG : ∀ k, G k → k < wr.heap.size := tG.choose_spec.2.2.2.2.2.2
            rcases sF k h with h | h
            · exact hd k h h'
            · have := ltG k h'; omega
          clear c2 tG2 hcr hc2 kF kG sF sG
          generalize putL ns s = L at *
          obtain ⟨sv, p0, _, hR, _⟩ := id tG'
          obtain ⟨o', c', rfl, _⟩ := hR.shape
          have hq1 : (N != N) = false := by simp
          have hq2 : (Z != Z) = false := by simp
          go_wp2_with fail
          go_quiet ((go_at_call 12; exact Calls.quiet_of_same (len_q _ F' L _ tF3)))
          go_wp2
          have bwq : Both wa.heap.size w1.heap.size wa L (w3.drewN nq) := by
            obtain ⟨F1, G1, x1, x2, x3, x4, x5, x6, x7⟩ := hB
            have hbd : Below w3.heap.size w3 (w3.drewN nq) := below_drewN w3 nq
            exact ⟨F1, G1, x1.below hbd, x2.below hbd, x3, x4, x5, x6.trans (below_le hbd x6.size), x7⟩
          exact ⟨⟨k + 1, L, by go_num, by omega, by omega, bwq⟩, by simp [intOf]; omega⟩
        · have hs2z : (2000 : Int) < (s.size : Int) := by omega
          go_wp2
          go_ret
          exact ⟨rfl, ba.trans (below_le bw ba.size)⟩
      · have hklz : ¬ (k : Int) < (l.length : Int) := by omega
        have hTr := hTa.below bw
        have Hns := hid' hnk
        have hns60 : ns.length ≤ 60 := by omega
        obtain ⟨sv, p0, _, hR, _⟩ := id tG
        obtain ⟨o', c', rfl, _, hLn⟩ := hR.shape
        have hnsz : (ns.length : Int) ≤ 60 := by omega
        clear hd lF lG
        go_wp2_with fail
        go_loopw [12] (fun v w2 => ∃ j : Nat, v = .int .i64 (j : Int) ∧ j ≤ l.length ∧ w2 = wr) (fun v _ => l.length - (intOf v).toNat)
        case atStart => exact ⟨0, rfl, Nat.zero_le _, rfl⟩
        case round =>
          obtain ⟨j, rfl, hj, rfl⟩ := hrel
          by_cases hjl : j < l.length
          · have hjlz : (j : Int) < (l.length : Int) := by omega
            obtain ⟨s, hs⟩ : ∃ s, l[j]? = some s := ⟨l[j], by simp⟩
            obtain ⟨a, rfl, hca⟩ := hLa j s hs
            have hcr : wr.cell? (a.add j) = some (.string s) := (bw.cell (World.block_lt_of_cell? _ _ hca)).trans hca
            have hsm : s.size ≤ maxLen := hsz s (List.mem_of_getElem? hs)
            clear hs hca
            have c1 := find_w _ F ns s wr hsm tF
            have c2 := rfind_w _ G ns s wr (by omega) tG
            obtain ⟨N, hN⟩ : ∃ N, findN ns s = N := ⟨_, rfl⟩
            obtain ⟨Z, hZ⟩ : ∃ Z, findB ns s = Z := ⟨_, rfl⟩
            rw [hN, hZ] at c1 c2
            clear hN hZ
            have hq1 : (N != N) = false := by simp
            have hq2 : (Z != Z) = false := by simp
            go_wp2_with fail
            refine c1.mono ?_
            rintro e w2 ⟨rfl, rfl⟩
            go_wp2_with fail
            refine c2.mono ?_
            rintro e w2 ⟨rfl, rfl⟩
            go_wp2
            exact ⟨⟨j + 1, by go_num, by omega, trivial⟩, by simp [intOf]; omega⟩
          · have hjlz : ¬ (j : Int) < (l.length : Int) := by omega
            go_wp2_with fail
            go_loopw [17] (fun v w2 => ∃ j : Nat, v = .int .i64 (j : Int) ∧ j ≤ ns.length ∧ w2 = wr) (fun v _ => ns.length - (intOf v).toNat)
            case atStart => exact ⟨0, rfl, Nat.zero_le _, rfl⟩
            case round =>
              obtain ⟨i, rfl, hi, rfl⟩ := hrel
              by_cases hil : i < ns.length
              · have hilz : (i : Int) < (ns.length : Int) := by omega
                obtain ⟨s, hs⟩ : ∃ s, ns[i]? = some s := ⟨ns[i], by simp⟩
                obtain ⟨a, rfl, hca⟩ := hLn i s hs
                have c1 := name_w _ F ns (i : Int) wr tF
                have e1 : nameS ns (i : Int) = s := by unfold nameS; simp [List.getD, hs]
                have e2 : nameB ns (i : Int) = true := by unfold nameB; simp; omega
                rw [e1, e2] at c1
                clear e1 e2 hs
                go_wp2_with fail
                refine c1.mono ?_
                rintro e w2 ⟨rfl, rfl⟩
                go_wp2
                exact ⟨⟨i + 1, by go_num, by omega, trivial⟩, by simp [intOf]; omega⟩
              · have hilz : ¬ (i : Int) < (ns.length : Int) := by omega
                have c1 := name_w _ F ns n wr tF
                have BB : Below w.heap.size w wr := ba.trans (below_le bw ba.size)
                have hv0 : Lib.validD ByteArray.empty.data.toList = true := by decide +kernel
                have c0 := rvalid_w ByteArray.empty wr (by decide) hTr
                rw [hv0] at c0
                clear hLn hilz
                by_cases h0 : 0 ≤ n
                · by_cases h1 : n < (ns.length : Int)
                  · obtain ⟨q, rfl⟩ := Int.eq_ofNat_of_zero_le h0
                    obtain ⟨s, hs⟩ : ∃ s, ns[q]? = some s := ⟨ns[q]'(by omega), by simp⟩
                    have e1 : nameS ns (q : Int) = s := by unfold nameS; simp [List.getD, hs]
                    have e2 : nameB ns (q : Int) = true := by unfold nameB; simp; omega
                    rw [e1, e2] at c1
                    have hvs := (Hv.out s (List.mem_of_getElem? hs)).1
                    have hss : s.size ≤ 9223372036854775807 := by have := (Hv.out s (List.mem_of_getElem? hs)).2; omega
                    have c2 := rvalid_w s wr hss hTr
                    rw [hvs] at c2
                    clear e1 e2 hs hvs
                    go_wp2_with fail
                    refine c1.mono ?_
                    rintro e w2 ⟨rfl, rfl⟩
                    go_wp2_with fail
                    refine c2.mono ?_
                    rintro e w3 ⟨rfl, b3⟩
                    go_wp2
                    go_ret
                    exact ⟨rfl, BB.trans (below_le b3 BB.size)⟩
                  · have e1 : nameS ns n = ByteArray.empty := by
                      unfold nameS; rw [if_pos (by omega)]; rw [List.getD, List.getElem?_eq_none (by omega)]; rfl
                    have e2 : nameB ns n = false := by unfold nameB; simp; omega
                    rw [e1, e2] at c1
                    clear e1 e2
                    have hdl : decide (n < (ns.length : Int)) = false := by simp; omega
                    go_wp2_with fail
                    refine c1.mono ?_
                    rintro e w2 ⟨rfl, rfl⟩
                    go_wp2_with fail
                    refine c0.mono ?_
                    rintro e w3 ⟨rfl, b3⟩
                    go_wp2
                    go_ret
                    exact ⟨rfl, BB.trans (below_le b3 BB.size)⟩
                · have e1 : nameS ns n = ByteArray.empty := by unfold nameS; rw [if_neg h0]
                  have e2 : nameB ns n = false := by unfold nameB; simp; omega
                  rw [e1, e2] at c1
                  clear e1 e2
                  go_wp2_with fail
                  refine c1.mono ?_
                  rintro e w2 ⟨rfl, rfl⟩
                  go_wp2_with fail
                  refine c0.mono ?_
                  rintro e w3 ⟨rfl, b3⟩
                  go_wp2
                  go_ret
                  exact ⟨rfl, BB.trans (below_le b3 BB.size)⟩
  · have hl60z : (60 : Int) < (l.length : Int) := by omega
    go_wp2
    go_ret
    exact ⟨rfl, ba⟩
end Go.Proofs.YtibgdncfahffpaaDoor.atomsPlays
