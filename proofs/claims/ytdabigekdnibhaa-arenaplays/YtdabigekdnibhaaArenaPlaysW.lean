/- ArenaPlays, walked: whatever is taken, set, asked for and cut, it answers true. -/
import Derived.Test.YtdabigekdnibhaaArenaRowsW
import Derived.Deep.CutBlock
namespace Go.Proofs.Ytdabigekdnibhaa.arenaPlays
open Go.ChangeShapes Go.WideShapes Go.ChangeAt Go.ChangeMaps Go.RowKit
set_option linter.unusedSimpArgs false
set_option linter.unusedVariables false
set_option maxRecDepth 2000
/-- the arena and the reference's memory hold the same words -/
def BothA (ga gm : Nat) (w0 : World) (l : List Int) (n : Nat) (w : World) : Prop :=
  ∃ F G, Arn ga F l n w ∧ Mm gm G l n w ∧ (∀ k, F k → G k → False) ∧ (∀ k, F k → w0.heap.size ≤ k) ∧ (∀ k, G k → w0.heap.size ≤ k) ∧ Below w0.heap.size w0 w
theorem BothA.put {ga gm : Nat} {w0 w w' w'' : World} {l' : List Int} {n' : Nat} {F G F' G' : Nat → Prop}
    (tF : ∀ k, F k → k < w.heap.size) (tG : ∀ k, G k → k < w.heap.size) (d : ∀ k, F k → G k → False) (lF : ∀ k, F k → w0.heap.size ≤ k) (lG : ∀ k, G k → w0.heap.size ≤ k) (b : Below w0.heap.size w0 w)
    (tF' : Arn ga F' l' n' w') (kF : Kept F w w') (sF : ∀ k, F' k → F k ∨ w.heap.size ≤ k)
    (tG' : Mm gm G' l' n' w'') (kG : Kept G w' w'') (sG : ∀ k, G' k → G k ∨ w'.heap.size ≤ k) : BothA ga gm w0 l' n' w'' := by
  have ltF := tF'.lt
  refine ⟨F', G', tF'.kept kG (fun k h h' => ?_), tG', fun k h h' => ?_, fun k h => ?_, fun k h => ?_, (b.trans (kF.below b.size lF)).trans (kG.below (Nat.le_trans b.size kF.size) lG)⟩
  · rcases sF k h with h | h
    · exact d k h h'
    · have := tG k h'; omega
  · rcases sG k h' with h' | h'
    · rcases sF k h with h | h
      · exact d k h h'
      · have := tG k h'; omega
    · have := ltF k h; omega
  · rcases sF k h with h | h
    · exact lF k h
    · have := b.size; omega
  · rcases sG k h with h | h
    · exact lG k h
    · have := b.size; have := kF.size; omega
theorem deed_new {w W : World} {a b c d : Value} {t : TypeId} (h : w.alloc (.cells #[a, b, c, d] t) = W) : Below w.heap.size w W ∧ W.cell? ⟨w.heap.size, 0, none⟩ = some a ∧ W.cell? ⟨w.heap.size, 1, none⟩ = some b ∧ W.cell? ⟨w.heap.size, 2, none⟩ = some c ∧ W.cell? ⟨w.heap.size, 3, none⟩ = some d ∧ w.heap.size < W.heap.size := by
  subst h
  refine ⟨(Below.refl _ w).alloc (Nat.le_refl _) _, ?_, ?_, ?_, ?_, by simp⟩ <;> (rw [World.cell?_alloc_mark]; rfl)
theorem Kept.cell {F : Nat → Prop} {w w' : World} (h : Kept F w w') {a : Addr} {v : Value} (hn : ¬ F a.block) (hc : w.cell? a = some v) : w'.cell? a = some v :=
  (World.cell?_of_block (h.block _ (World.block_lt_of_cell? _ _ hc) hn)).trans hc
theorem add_next (x : Addr) (j : Nat) : x.add (j + 1) = ⟨x.block, x.off + (j + 1), none⟩ := by unfold Addr.add; simp
set_option maxRecDepth 4000 in
set_option maxHeartbeats 4000000 in
theorem walk {H : Type} (enc : TypeId × Value → H) (base : Nat) (w : World) (v0 v1 : Value) (d0 d1 : DataW H) (p0 p1 : List MemPlace)
    (o0 : Value.okWide Try.prog w .any base 3 v0) (h0 : DataW.Trod enc Try.prog w 0 (fun _ => true) true 3 v0 d0 p0)
    (o1 : Value.okWide Try.prog w .any base 41 v1) (h1 : DataW.Trod enc Try.prog w 0 (fun _ => true) true 41 v1 d1 p1) :
    Calls Try.prog 4 #[v0, v1] w fun e w' => e = .returned (.bool true) ∧ Below w.heap.size w w' := by
  obtain ⟨z, rfl, _⟩ := open_int Try.underlying3 o0 h0
  obtain ⟨o, ds, c, rfl, hD, hlc⟩ := open_deeds o1 h1
  clear o0 h0 o1 h1
  go_enter Try.func4, Try.ntmps4
  go_wp2_with fail
  refine (awake_w w).mono ?_
  rintro e wa ⟨rfl, ba⟩
  have hDa := hD.below ba
  have c1 := new_w z wa
  clear hD
  by_cases hl : ds.length ≤ 60
  · have hlz : ¬ (60 : Int) < (ds.length : Int) := by omega
    have hlz2 : (ds.length : Int) ≤ 60 := by omega
    go_upto_region 3 with fail
    go_cut [30] from 18 (fun b wx => b = .bool (decide (5000 < z) && decide (z ≤ 1048576)) ∧ wx = wa)
    case first =>
      go_wp2_with fail
      all_goals go_meet
      all_goals (refine ⟨?_, rfl⟩; congr 1; rw [Bool.eq_iff_iff]; simp only [Bool.or_eq_true, Bool.and_eq_true, decide_eq_true_eq]; omega)
    case rest =>
    obtain ⟨rfl, e⟩ := hcut
    subst wc
    cases hz : (decide (5000 < z) && decide (z ≤ 1048576))
    · clear hz
      go_wp2_with fail
      refine c1.mono ?_
      rintro e w1 ⟨ga, rfl, F, hA, hF, b1⟩
      have c2 := rnew_w z w1
      clear c1
      go_wp2_with fail
      refine c2.mono ?_
      rintro e w2 ⟨gm, rfl, G, hM, hG, b2⟩
      have hB : BothA ga gm wa [] (newN z) w2 := ⟨F, G, hA.below b2, hM, fun k h h' => by have := hA.lt k h; have := hG k h'; omega, hF, fun k h => by have := hG k h; have := b1.size; omega, b1.trans (below_le b2 b1.size)⟩
      clear c2 hA hM hF hG b1 b2
      go_wp2_with fail
      go_loopw [7] (fun v wr => ∃ (k : Nat) (l : List Int) (n : Nat), v = .int .i64 (k : Int) ∧ k ≤ ds.length ∧ BothA ga gm wa l n wr) (fun v _ => ds.length - (intOf v).toNat)
      case atStart => exact ⟨0, [], _, rfl, Nat.zero_le _, hB⟩
      case round =>
        obtain ⟨k, l, n, rfl, hk, F, G, hA, hM, hd, lF, lG, bw⟩ := hrel
        by_cases hkl : k < ds.length
        · have hklz : (k : Int) < (ds.length : Int) := by omega
          obtain ⟨D, hDk⟩ : ∃ D, ds[k]? = some D := ⟨ds[k], by simp⟩
          obtain ⟨a, rfl, e0, e1, e2, e3⟩ := (hDa.below bw) k D hDk
          obtain ⟨d, N, M, x⟩ := D
          simp only at e0 e1 e2 e3
          rw [add_next _ 0] at e1
          rw [add_next _ 1] at e2
          rw [add_next _ 2] at e3
          simp only [Nat.zero_add, Nat.reduceAdd] at e1 e2 e3
          clear hDk
          go_upto_region 12 with fail
          generalize hW : World.alloc wr _ = W
          obtain ⟨bW, q0, q1, q2, q3, sW⟩ := deed_new hW
          have bwW : Below wa.heap.size wa W := bw.trans (below_le bW bw.size)
          have hAW := hA.below bW
          have hMW := hM.below bW
          have nF : ¬ F wr.heap.size := fun h => by have := hA.lt _ h; omega
          have nG : ¬ G wr.heap.size := fun h => by have := hM.lt _ h; omega
          clear hW e0 e1 e2 e3 hA hM
          go_cut [59] from 37 to 172 (fun b wx => b = .bool (decide (d = 6) && (decide (20000 < M) && decide (M ≤ 1048576))) ∧ wx = W)
          case first =>
            by_cases h6 : d = 6
            · have hb : (d == 6) = true := by simp [h6]
              have h6H := hid h6
              clear h6
              go_wp2_with fail
              all_goals go_meet
              all_goals (have h6 := h6H.out; refine ⟨?_, rfl⟩; congr 1; rw [Bool.eq_iff_iff]; simp only [Bool.and_eq_true, decide_eq_true_eq]; (try simp); (try omega))
            · have hb : (d == 6) = false := by simp [h6]
              have h6H := hid h6
              clear h6
              go_wp2_with fail
              all_goals go_meet
              all_goals (have h6 := h6H.out; refine ⟨?_, rfl⟩; congr 1; rw [Bool.eq_iff_iff]; simp only [Bool.and_eq_true, decide_eq_true_eq]; (try simp); (try omega))
          case rest =>
          obtain ⟨rfl, e⟩ := hcut
          subst wc
          cases hbad : (decide (d = 6) && (decide (20000 < M) && decide (M ≤ 1048576)))
          · clear hbad
            go_upto_block 2 with fail
            go_cut [9, 10, 11, 12, 13, 14, 15, 16, 17] from 37 to 172 (fun p9 p10 p11 p12 p13 p14 p15 p16 p17 wx => p9 = .bool true ∧ ∃ (L : List Int) (m : Nat), BothA ga gm wa L m wx)
            case first =>
              by_cases hd2 : d ≤ 2
              · skip
                have c3 := take_w ga F l n N W hAW
                have c4 := fun w3 h3 => rtake_w gm G l n N w3 h3
                have hput : ∀ w3 w4 G', Arn ga F (takeL l n N) n w3 → Kept F W w3 → Mm gm G' (takeL l n N) n w4 → Kept G w3 w4 → (∀ k, G' k → G k ∨ w3.heap.size ≤ k) → BothA ga gm wa (takeL l n N) n w4 := fun w3 w4 G' a b c d' e => BothA.put hAW.lt hMW.lt hd lF lG bwW a b (fun k h => .inl h) c d' e
                obtain ⟨V, hV⟩ : ∃ V, takeV l n N = V := ⟨_, rfl⟩
                obtain ⟨T, hT⟩ : ∃ T, takeB l n N = T := ⟨_, rfl⟩
                obtain ⟨L, hL⟩ : ∃ L, takeL l n N = L := ⟨_, rfl⟩
                rw [hV, hT, hL] at c3 c4
                rw [hL] at hput
                have hq1 : (V == V) = true := by simp
                have hq2 : (T == T) = true := by simp
                have hpH := hid hput
                clear hV hT hL hput
                go_wp2_with fail
                refine c3.mono ?_
                rintro e w3 ⟨rfl, hA3, hK3⟩
                have r1 := Kept.cell hK3 nF q1
                have hM3 := hMW.kept hK3 (fun k h h' => hd k h' h)
                clear c3 q0 q1 q2 q3
                go_wp2_with fail
                refine (c4 w3 hM3).mono ?_
                rintro e w4 ⟨rfl, G', hM4, hK4, hs4⟩
                have hB2 := hpH.out w3 w4 G' hA3 hK3 hM4 hK4 (fun k h => (hs4 k h).imp id id)
                clear c4 hA3 hK3 hM4 hK4 hs4 hM3 hpH hAW hMW
                go_wp2_with fail
                all_goals go_meet
                all_goals exact ⟨rfl, L, n, hB2⟩
              · by_cases hd4 : d ≤ 4
                · skip
                  have hput : ∀ w3 w4, Arn ga F (setL l N x) n w3 → Kept F W w3 → Mm gm G (setL l N x) n w4 → Kept G w3 w4 → BothA ga gm wa (setL l N x) n w4 := fun w3 w4 a b c d' => BothA.put hAW.lt hMW.lt hd lF lG bwW a b (fun k h => .inl h) c d' (fun k h => .inl h)
                  have c3 := fun w3 h3 => set_w ga F l n N x w3 h3
                  have c4 := fun w3 h3 => rset_w gm G l n N x w3 h3
                  obtain ⟨T, hT⟩ : ∃ T, inB l N = T := ⟨_, rfl⟩
                  obtain ⟨L, hL⟩ : ∃ L, setL l N x = L := ⟨_, rfl⟩
                  rw [hT, hL] at c3 c4
                  rw [hL] at hput
                  have hq2 : (T == T) = true := by simp
                  have hpH := hid hput
                  clear hT hL hput
                  go_wp2_with fail
                  go_region_held3 (fun w' => w'.cell? ⟨wr.heap.size, 1, none⟩ = some (.int .i64 N) ∧ w'.cell? ⟨wr.heap.size, 3, none⟩ = some (.int .u64 x)) (first | go_keep) (first
                    | (go_at_call 18
                       refine (c3 _ (hAW.below (below_drewN W 1))).mono ?_
                       rintro e w3 ⟨rfl, hA3, hK3'⟩
                       have hK3 : Kept F W w3 := (Kept.of_below (below_drewN W 1)).trans hK3'
                       have r1 := Kept.cell hK3 nF q1
                       have r3 := Kept.cell hK3 nF q3
                       have hM3 := hMW.kept hK3 (fun k h h' => hd k h' h))
                    | (go_at_call 19
                       refine (c4 _ hM3).mono ?_
                       rintro e w4 ⟨rfl, hM4, hK4⟩
                       have t1 := Kept.cell hK4 nG r1
                       have t3 := Kept.cell hK4 nG r3))
                  all_goals (
                    have hB2 := hpH.out w3 w4 hA3 hK3 hM4 hK4
                    clear c3 c4 hA3 hK3 hM4 hK4 hM3 hpH hAW hMW
                    go_wp2_with fail
                    go_meet
                    exact ⟨rfl, L, n, hB2⟩)
                · by_cases hd5 : d = 5
                  · skip
                    have hd5b : (d == 5) = true := by simp [hd5]
                    clear hd5
                    have c3 := get_w ga F l n N W hAW
                    have c4 := rget_w gm G l n N W hMW
                    have hB2 : BothA ga gm wa l n W := ⟨F, G, hAW, hMW, hd, lF, lG, bwW⟩
                    obtain ⟨V, hV⟩ : ∃ V, getV l N = V := ⟨_, rfl⟩
                    obtain ⟨T, hT⟩ : ∃ T, inB l N = T := ⟨_, rfl⟩
                    rw [hV, hT] at c3 c4
                    have hq1 : (V == V) = true := by simp
                    have hq2 : (T == T) = true := by simp
                    clear hV hT hAW hMW
                    go_wp2_with fail
                    refine c3.mono ?_
                    rintro e w3 ⟨rfl, rfl⟩
                    clear c3
                    go_wp2_with fail
                    refine c4.mono ?_
                    rintro e w4 ⟨rfl, rfl⟩
                    clear c4
                    go_wp2_with fail
                    all_goals go_meet
                    all_goals exact ⟨rfl, l, n, hB2⟩
                  · skip
                    have hd5b : (d == 5) = false := by simp [hd5]
                    clear hd5
                    have hput : ∀ w3 w4 F', Arn ga F' (cutL l N M) (cutN l n N M) w3 → Kept F W w3 → (∀ k, F' k → F k ∨ W.heap.size ≤ k) → Mm gm G (cutL l N M) (cutN l n N M) w4 → Kept G w3 w4 → BothA ga gm wa (cutL l N M) (cutN l n N M) w4 := fun w3 w4 F' a b e c d' => BothA.put hAW.lt hMW.lt hd lF lG bwW a b e c d' (fun k h => .inl h)
                    have c3 := fun w3 h3 => cut_w ga F l n N M w3 h3
                    have c4 := fun w3 h3 => rcut_w gm G l n N M w3 h3
                    obtain ⟨T, hT⟩ : ∃ T, cutB l N M = T := ⟨_, rfl⟩
                    obtain ⟨L, hL⟩ : ∃ L, cutL l N M = L := ⟨_, rfl⟩
                    obtain ⟨m, hm⟩ : ∃ m, cutN l n N M = m := ⟨_, rfl⟩
                    rw [hT, hL, hm] at c3 c4
                    rw [hL, hm] at hput
                    have hq2 : (T == T) = true := by simp
                    have hpH := hid hput
                    clear hT hL hm hput
                    go_wp2_with fail
                    go_region_held3 (fun w' => w'.cell? ⟨wr.heap.size, 1, none⟩ = some (.int .i64 N) ∧ w'.cell? ⟨wr.heap.size, 2, none⟩ = some (.int .i64 M)) (first | go_keep) (first
                      | (go_at_call 21
                         refine (c3 _ (hAW.below (below_drewN W 1))).mono ?_
                         rintro e w3 ⟨rfl, F', hA3, hK3', hs3⟩
                         have hK3 : Kept F W w3 := (Kept.of_below (below_drewN W 1)).trans hK3'
                         have r1 := Kept.cell hK3 nF q1
                         have r2 := Kept.cell hK3 nF q2
                         have hM3 := hMW.kept hK3 (fun k h h' => hd k h' h))
                      | (go_at_call 22
                         refine (c4 _ hM3).mono ?_
                         rintro e w4 ⟨rfl, hM4, hK4⟩
                         have t1 := Kept.cell hK4 nG r1
                         have t2 := Kept.cell hK4 nG r2))
                    all_goals (
                      have hB2 := hpH.out w3 w4 F' hA3 hK3 hs3 hM4 hK4
                      clear c3 c4 hA3 hK3 hM4 hK4 hM3 hpH hAW hMW hs3
                      go_wp2_with fail
                      go_meet
                      exact ⟨rfl, L, m, hB2⟩)
            case rest =>
            obtain ⟨rfl, L, m, hB2⟩ := hcut
            obtain ⟨F2, G2, hA2, hM2, hd2, lF2, lG2, bw2⟩ := id hB2
            obtain ⟨vm, ⟨m0, m1, m2, m3⟩, hRm, _, hlm, hnm, _⟩ := id hM2
            obtain ⟨om, cm, rfl, _, hLm⟩ := hRm.shape
            have hl1 : ((L.length : Int) != (L.length : Int)) = false := by simp
            have hn1 : ((m : Int) != (m : Int)) = false := by simp
            have hdd : decide (L = L) = true := by simp
            have c7 := fun b w5 (h : LiesW (some ⟨b, 0, none⟩) L w5) (h' : LiesW om L w5) => sameWords_w (some ⟨b, 0, none⟩) om L L L.length cm w5 h h' (by omega)
            rw [hdd] at c7
            have hd2H := hd2
            clear hRm hdd
            go_wp2_with fail
            go_region_held3 (fun w' => w'.cell? ⟨gm, 0, none⟩ = some (.slice om L.length cm) ∧ w'.cell? ⟨gm, 1, none⟩ = some (.int .i64 (m : Int))) (first | go_keep) (first
              | (go_at_call 23; refine (used_w ga F2 L m _ (hA2.below (below_drewN wc 1))).mono ?_; rintro e w5 ⟨rfl, rfl⟩)
              | (go_at_call 15; refine (size_w ga F2 L m _ (hA2.below (below_drewN wc 1))).mono ?_; rintro e w5 ⟨rfl, rfl⟩)
              | (go_at_call 25; refine (words_w ga F2 L m _ (hA2.below (below_drewN wc 1))).mono ?_; rintro e w5 ⟨b5, rfl, hb5, hB5, b5'⟩
                 have m0' : w5.cell? ⟨gm, 0, none⟩ = some (.slice om L.length cm) := (b5'.cell (World.block_lt_of_cell? _ _ m0)).trans m0
                 have m1' : w5.cell? ⟨gm, 1, none⟩ = some (.int .i64 (m : Int)) := (b5'.cell (World.block_lt_of_cell? _ _ m1)).trans m1)
              | (go_at_call 24; refine (c7 b5 _ (Blk.lies (r := []) (by simpa using hB5)) ((LiesW.below hLm (below_drewN wc 1)).below b5')).mono ?_; rintro e w6 ⟨rfl, b6'⟩
                 have m0' : w6.cell? ⟨gm, 0, none⟩ = some (.slice om L.length cm) := (b6'.cell (World.block_lt_of_cell? _ _ m0')).trans m0'
                 have m1' : w6.cell? ⟨gm, 1, none⟩ = some (.int .i64 (m : Int)) := (b6'.cell (World.block_lt_of_cell? _ _ m1')).trans m1'))
            all_goals (
              have b6 : Below wc.heap.size wc w6 := (below_drewN wc 1).trans (b5'.trans (below_le b6' b5'.size))
              have hB3 : BothA ga gm wa L m w6 := ⟨F2, G2, hA2.below b6, hM2.below b6, hd2H, lF2, lG2, bw2.trans (below_le b6 bw2.size)⟩
              clear c7
              go_wp2
              exact ⟨⟨k + 1, L, m, by go_num, by omega, hB3⟩, by simp [intOf]; omega⟩)
          · go_wp2
            go_ret
            exact ⟨rfl, ba.trans (below_le bwW ba.size)⟩
        · have hklz : ¬ (k : Int) < (ds.length : Int) := by omega
          go_wp2
          go_ret
          exact ⟨rfl, ba.trans (below_le bw ba.size)⟩
    · go_wp2
      go_ret
      exact ⟨rfl, ba⟩
  · have hlz : (60 : Int) < (ds.length : Int) := by omega
    go_wp2
    all_goals go_ret
    all_goals exact ⟨rfl, ba⟩
end Go.Proofs.Ytdabigekdnibhaa.arenaPlays
