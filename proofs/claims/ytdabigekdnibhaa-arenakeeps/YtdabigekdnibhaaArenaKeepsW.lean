/- ArenaKeeps, walked: whatever is taken and cut, it answers true. -/
import Derived.Test.YtdabigekdnibhaaArenaRowsW
import Derived.Deep.CutBlock
namespace Go.Proofs.Ytdabigekdnibhaa.arenaKeeps
open Go.ChangeShapes Go.WideShapes Go.ChangeAt Go.ChangeMaps Go.RowKit
set_option linter.unusedSimpArgs false
set_option linter.unusedVariables false
set_option maxRecDepth 2000
theorem at3 {l r q : List Int} {u j : Nat} (hu : u = l.length + r.length) (hj : j < q.length) : inB (l ++ (r ++ q)) ((u : Int) + (j : Int)) = true := by
  unfold inB; simp only [List.length_append, decide_eq_true_eq]; omega
theorem get3 {l r q : List Int} {u j : Nat} {x : Int} (hu : u = l.length + r.length) (hj : q[j]? = some x) : getV (l ++ (r ++ q)) ((u : Int) + (j : Int)) = x := by
  have h := (List.getElem?_eq_some_iff.1 hj).1
  unfold getV
  rw [at3 hu h, if_pos rfl]
  have e : ((u : Int) + (j : Int)).toNat = l.length + (r.length + j) := by omega
  rw [e, List.getD, List.getElem?_append_right (by omega), List.getElem?_append_right (by omega)]
  have e2 : l.length + (r.length + j) - l.length - r.length = j := by omega
  rw [e2, hj]; rfl
theorem set3 {l r q : List Int} {u j : Nat} {x : Int} (hu : u = l.length + r.length) (hj : j < q.length) : setL (l ++ (r ++ q)) ((u : Int) + (j : Int)) x = l ++ (r ++ q.set j x) := by
  unfold setL
  rw [at3 hu hj, if_pos rfl]
  have e : ((u : Int) + (j : Int)).toNat = l.length + (r.length + j) := by omega
  rw [e, List.set_append_right _ _ (by omega), List.set_append_right _ _ (by omega)]
  have e2 : l.length + (r.length + j) - l.length - r.length = j := by omega
  rw [e2]
set_option maxRecDepth 4000 in
set_option maxHeartbeats 4000000 in
theorem walk {H : Type} (enc : TypeId × Value → H) (base : Nat) (w : World) (v0 v1 : Value) (d0 d1 : DataW H) (p0 p1 : List MemPlace)
    (o0 : Value.okWide Try.prog w .any base 35 v0) (h0 : DataW.Trod enc Try.prog w 0 (fun _ => true) true 35 v0 d0 p0)
    (o1 : Value.okWide Try.prog w .any base 55 v1) (h1 : DataW.Trod enc Try.prog w 0 (fun _ => true) true 55 v1 d1 p1) :
    Calls Try.prog 6 #[v0, v1] w fun e w' => e = .returned (.bool true) ∧ Below w.heap.size w w' := by
  obtain ⟨o, l, c, rfl, hL, hlc, hwf⟩ := open_words o0 h0
  obtain ⟨os, ss, cs, rfl, hS, hsc, hsm, hs8⟩ := open_u8s o1 h1
  clear o0 h0 o1 h1
  go_enter Try.func6, Try.ntmps6
  go_wp2_with fail
  refine (awake_w w).mono ?_
  rintro e wa ⟨rfl, ba⟩
  by_cases hl1 : l.length ≤ 100
  · have hl1z : ¬ (100 : Int) < (l.length : Int) := by omega
    by_cases hl2 : ss.length ≤ 30
    · have hl2z : ¬ (30 : Int) < (ss.length : Int) := by omega
      have hLa := hL.below ba
      have hSa := hS.below ba
      have c1 := fill_w o l c 300 wa hLa (by omega)
      go_wp2_with fail
      refine c1.mono ?_
      rintro e w1 ⟨g, rfl, F, hA, hF, b1⟩
      clear c1
      obtain ⟨nz, hnz⟩ : ∃ nz, l.length + 300 = nz := ⟨_, rfl⟩
      rw [hnz] at hA
      have hnzH := hid hnz
      clear hnz
      go_wp2_with fail
      go_loopw [6, 7] (fun v6 v7 wr => ∃ (k u : Nat) (r : List Int) (F : Nat → Prop), v6 = .int .i64 (u : Int) ∧ v7 = .int .i64 (k : Int) ∧ k ≤ ss.length ∧ u ≤ 400 ∧ l.length ≤ u ∧ Hid (u = l.length + r.length) ∧ Hid (Arn g F (l ++ r) nz wr) ∧ (∀ q, F q → wa.heap.size ≤ q) ∧ Below wa.heap.size wa wr) (fun _ v _ => ss.length - (intOf v).toNat)
      case atStart => exact ⟨0, l.length, [], F, rfl, rfl, Nat.zero_le _, by omega, Nat.le_refl _, hid rfl, hid (by simpa using hA), hF, b1⟩
      case round =>
        obtain ⟨k, u, r, F', rfl, rfl, hk, hu4, hlu, hur, hAH, hF', bw⟩ := hrel
        by_cases hkl : k < ss.length
        · have hklz : (k : Int) < (ss.length : Int) := by omega
          obtain ⟨x, hx⟩ : ∃ x, ss[k]? = some x := ⟨ss[k], by simp⟩
          obtain ⟨a, rfl, hc⟩ := (hSa.below bw) k x hx
          have hx8 := hs8 x (List.mem_of_getElem? hx)
          obtain ⟨y, hy⟩ : ∃ y : Nat, (x : Int) % 20 = (y : Int) := ⟨x % 20, by omega⟩
          have hy20 : y < 20 := by omega
          clear hx
          cases hbt : (bits .and .u8 (x : Int) 64 == 0)
          · have hA := hAH.out
            have hle : (l ++ r).length ≤ nz := by obtain ⟨_, _, _, _, a, _⟩ := hA; exact a
            rw [List.length_append] at hle
            have cS := size_w g F' _ nz wr hA
            have cC := fun t => cut_w g F' (l ++ r) nz t (nz : Int) wr hA
            have hcut : ∃ t : Nat, l.length ≤ t ∧ t ≤ u ∧ ((t = l.length ∧ ((u : Int) - (y : Int) ≤ (l.length : Int))) ∨ ((t : Int) = (u : Int) - (y : Int) ∧ (l.length : Int) < (u : Int) - (y : Int))) := by
              by_cases h : (l.length : Int) < (u : Int) - (y : Int)
              · exact ⟨u - y, by omega, by omega, .inr ⟨by omega, h⟩⟩
              · exact ⟨l.length, Nat.le_refl _, hlu, .inl ⟨rfl, by omega⟩⟩
            obtain ⟨t, ht1, ht2, ht⟩ := hcut
            have hcb : cutB (l ++ r) (t : Int) (nz : Int) = true := by
              have := hur.out
              have := hnzH.out
              unfold cutB; rw [List.length_append]; simp; omega
            have hcl : cutL (l ++ r) (t : Int) (nz : Int) = l ++ r.take (t - l.length) := by
              unfold cutL; rw [hcb, if_pos rfl, Int.toNat_natCast, List.take_append, List.take_of_length_le (by omega)]
            have hcn : cutN (l ++ r) nz (t : Int) (nz : Int) = nz := by unfold cutN; rw [hcb]; simp
            have cC := cC (t : Int)
            rw [hcb, hcl, hcn] at cC
            have htH := hid (And.intro ht1 (And.intro ht2 hur.out))
            clear hcb hcl hcn hA hle
            rcases ht with ⟨rfl, h⟩ | ⟨h, h2⟩
            · clear ht1 ht2
              go_wp2_with fail
              refine cS.mono ?_
              rintro e w3 ⟨rfl, rfl⟩
              clear cS
              go_wp2_with fail
              refine cC.mono ?_
              rintro e w4 ⟨rfl, F3, hA3, hK3, hs3⟩
              clear cC
              have b4 : Below wa.heap.size wa w4 := bw.trans (hK3.below bw.size hF')
              have hA3H := hid hA3
              have hF3 : ∀ q, F3 q → wa.heap.size ≤ q := fun q e => (hs3 q e).elim (hF' q) (fun h => by have := bw.size; omega)
              clear hA3 hK3 hs3
              go_wp2
              exact ⟨⟨k + 1, l.length, _, F3, rfl, by go_num, by omega, by omega, Nat.le_refl _, hid (by simp), hA3H, hF3, b4⟩, by simp [intOf]; omega⟩
            · have hH := hid h
              rw [h] at cC
              clear h ht1 ht2
              go_wp2_with fail
              refine cS.mono ?_
              rintro e w3 ⟨rfl, rfl⟩
              clear cS
              go_wp2_with fail
              refine cC.mono ?_
              rintro e w4 ⟨rfl, F3, hA3, hK3, hs3⟩
              clear cC
              have b4 : Below wa.heap.size wa w4 := bw.trans (hK3.below bw.size hF')
              have hA3H := hid hA3
              have hF3 : ∀ q, F3 q → wa.heap.size ≤ q := fun q e => (hs3 q e).elim (hF' q) (fun h => by have := bw.size; omega)
              clear hA3 hK3 hs3
              go_wp2
              have h := hH.out
              have h2 := htH.out
              exact ⟨⟨k + 1, t, _, F3, by rw [← h], by go_num, by omega, by omega, h2.1, hid (by rw [List.length_take]; omega), hA3H, hF3, b4⟩, by simp [intOf]; omega⟩
          · have hA := hAH.out
            have hle : (l ++ r).length ≤ nz := by obtain ⟨_, _, _, _, a, _⟩ := hA; exact a
            rw [List.length_append] at hle
            have hleH := hid hle
            have cT := take_w g F' _ nz (y : Int) wr hA
            have hur2 := hur.out
            have hnz2 := hnzH.out
            clear hA hle
            by_cases hfit : u + y ≤ nz
            · have hb : takeB (l ++ r) nz (y : Int) = true := by unfold takeB; rw [List.length_append]; simp; omega
              have hv : takeV (l ++ r) nz (y : Int) = (u : Int) := by unfold takeV; rw [hb, if_pos rfl, List.length_append]; omega
              have hl : takeL (l ++ r) nz (y : Int) = l ++ (r ++ List.replicate y 0) := by unfold takeL; rw [hb, if_pos rfl, Int.toNat_natCast, List.append_assoc]
              rw [hb, hv, hl] at cT
              have hz1 : (u : Int) + (y : Int) ≤ (nz : Int) := by omega
              have hz2 : ((u : Int) != (u : Int)) = false := by simp
              clear hb hv hl hur2 hnz2
              go_wp2_with fail
              refine cT.mono ?_
              rintro e w3 ⟨rfl, hA3, hK3⟩
              have b3 : Below wa.heap.size wa w3 := bw.trans (hK3.below bw.size hF')
              have cS := size_w g F' _ nz w3 hA3
              have hA3H := hid hA3
              clear cT hK3 hA3
              go_wp2_with fail
              refine cS.mono ?_
              rintro e w4 ⟨rfl, rfl⟩
              clear cS
              go_wp2_with fail
              go_loopw [11] (fun v wx => ∃ (j : Nat) (q : List Int), v = .int .i64 (j : Int) ∧ j ≤ y ∧ Hid (q.length = y) ∧ Hid (∀ i : Nat, j ≤ i → i < y → q[i]? = some 0) ∧ Hid (Arn g F' (l ++ (r ++ q)) nz wx) ∧ Below wa.heap.size wa wx) (fun v _ => y - (intOf v).toNat)
              case atStart => exact ⟨0, List.replicate y 0, rfl, Nat.zero_le _, hid (by simp), hid (fun i _ hi => by simp [List.getElem?_replicate, hi]), hA3H, b3⟩
              case round =>
                obtain ⟨j, q, rfl, hj, hq, hq0, hAq, bx⟩ := hrel
                by_cases hjy : j < y
                · have hjz : (j : Int) < (y : Int) := by omega
                  have cG := get_w g F' _ nz ((u : Int) + (j : Int)) wr hAq.out
                  rw [at3 hur.out (by rw [hq.out]; exact hjy), get3 hur.out (hq0.out j (Nat.le_refl _) hjy)] at cG
                  have cX := set_w g F' _ nz ((u : Int) + (j : Int)) (1 + (j : Int)) wr hAq.out
                  rw [at3 hur.out (by rw [hq.out]; exact hjy), set3 hur.out (by rw [hq.out]; exact hjy)] at cX
                  go_wp2_with fail
                  refine cG.mono ?_
                  rintro e w5 ⟨rfl, rfl⟩
                  clear cG
                  go_wp2_with fail
                  refine cX.mono ?_
                  rintro e w5 ⟨rfl, hA5, hK5⟩
                  have b5 : Below wa.heap.size wa w5 := bx.trans (hK5.below bx.size hF')
                  have hA5H := hid hA5
                  clear cX hA5 hK5
                  go_wp2
                  exact ⟨⟨j + 1, q.set j (1 + (j : Int)), by go_num, by omega, hid (by rw [List.length_set]; exact hq.out), hid (fun i h1 h2 => by rw [List.getElem?_set_ne (by omega)]; exact hq0.out i (by omega) h2), hA5H, b5⟩, by simp [intOf]; omega⟩
                · have hjz : ¬ (j : Int) < (y : Int) := by omega
                  have e2 : Hid ((u : Int) + (y : Int) = ((u + y : Nat) : Int)) := hid (by omega)
                  have hl3 := hleH.out
                  have hnz3 := hnzH.out
                  go_wp2
                  exact ⟨⟨k + 1, u + y, r ++ q, F', by rw [e2.out], by go_num, by omega, by omega, by omega, hid (by rw [List.length_append, hq.out, hur.out]; omega), hAq, hF', bx⟩, by simp [intOf]; omega⟩
            · have hb : takeB (l ++ r) nz (y : Int) = false := by unfold takeB; rw [List.length_append]; simp; omega
              have hv : takeV (l ++ r) nz (y : Int) = 0 := by unfold takeV; rw [hb]; rfl
              have hl : takeL (l ++ r) nz (y : Int) = l ++ r := by unfold takeL; rw [hb]; rfl
              rw [hb, hv, hl] at cT
              have hz1 : ¬ (u : Int) + (y : Int) ≤ (nz : Int) := by omega
              clear hb hv hl hur2 hnz2
              go_wp2_with fail
              refine cT.mono ?_
              rintro e w3 ⟨rfl, hA3, hK3⟩
              have b3 : Below wa.heap.size wa w3 := bw.trans (hK3.below bw.size hF')
              have cS := size_w g F' _ nz w3 hA3
              have hA3H := hid hA3
              clear cT hK3 hA3
              go_wp2_with fail
              refine cS.mono ?_
              rintro e w4 ⟨rfl, rfl⟩
              clear cS
              go_wp2
              exact ⟨⟨k + 1, u, r, F', rfl, by go_num, by omega, hu4, hlu, hur, hA3H, hF', b3⟩, by simp [intOf]; omega⟩
        · have hklz : ¬ (k : Int) < (ss.length : Int) := by omega
          have hA := hAH.out
          have hur2 := hur.out
          have cW := words_w g F' _ nz wr hA
          have cU := used_w g F' (l ++ r) nz
          have e0 : (l ++ r).length = u := by rw [List.length_append]; omega
          rw [e0] at cW cU
          clear e0 hur2
          go_wp2_with fail
          refine cW.mono ?_
          rintro e w3 ⟨b, rfl, hb3, hB3, b3⟩
          have hA3 := hA.below b3
          have cU := cU w3 hA3
          clear cW hA hA3
          go_wp2_with fail
          refine cU.mono ?_
          rintro e w4 ⟨rfl, rfl⟩
          clear cU
          have cs := sameWords_w (some ⟨b, 0, none⟩) o l l u c w4 (Blk.lies hB3) ((hLa.below bw).below b3) (by omega)
          rw [show decide (l = l) = true from by simp] at cs
          have hluz : (l.length : Int) ≤ (u : Int) := by omega
          have huu : ((u : Int) == (u : Int)) = true := by simp
          clear hB3
          go_wp2_with fail
          refine cs.mono ?_
          rintro e w5 ⟨rfl, b5⟩
          go_wp2
          go_ret
          exact ⟨rfl, ba.trans (below_le (bw.trans (below_le (b3.trans (below_le b5 b3.size)) bw.size)) ba.size)⟩
    · have hl2z : (30 : Int) < (ss.length : Int) := by omega
      go_wp2
      all_goals go_ret
      all_goals exact ⟨rfl, ba⟩
  · have hl1z : (100 : Int) < (l.length : Int) := by omega
    go_wp2
    all_goals go_ret
    all_goals exact ⟨rfl, ba⟩
end Go.Proofs.Ytdabigekdnibhaa.arenaKeeps
