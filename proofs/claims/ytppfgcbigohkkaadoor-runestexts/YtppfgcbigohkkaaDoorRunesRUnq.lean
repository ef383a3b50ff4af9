/- Unquote of the reference: for every text what the signs say. -/
import Derived.Test.YtppfgcbigohkkaaDoorRunesREsc
import Derived.Test.YtppfgcbigohkkaaDoorRunesUnquote
namespace Go.Proofs.YtppfgcbigohkkaaDoor
open Go.ChangeShapes Go.WideShapes Go.ChangeAt Go.RowKit Go.Shelf
set_option linter.unusedSimpArgs false
set_option linter.unusedVariables false

theorem pre39 (X : List Nat) (h : okRs X) : Lib.hasPrefix (en X) [39] = decide (X.head? = some 39) := by
  cases X with
  | nil => rfl
  | cons r t =>
    have ho := (okRs_cons h).1
    unfold okR at ho
    show ([39] : List UInt8).isPrefixOf (e1 r ++ en t) = _
    by_cases h39 : r = 39
    · subst h39; rw [e1_39]; rfl
    · have hne : ∀ x u, e1 r = x :: u → (39 : UInt8) ≠ x := by
        intro x u he hx
        have hd := decode_e1 r (okRs_cons h).1 []
        rw [List.append_nil, he, ← hx, Lib.decodeL_ascii 39 u (by decide)] at hd
        exact h39 (by simpa using (congrArg Prod.fst hd).symm)
      cases he : e1 r with
      | nil => exact absurd he (e1_ne r)
      | cons x u =>
        have := hne x u he
        show ([39] : List UInt8).isPrefixOf (x :: (u ++ en t)) = _
        rw [List.isPrefixOf, show ((39 : UInt8) == x) = false by simp [this]]
        simp [h39]

theorem runes_conv' (s : ByteArray) (w : World) (hs : s.size ≤ 1000000) :
    ∃ cap W, (convert 9 42 (.string s)).run Tryd.prog w = .ok (.slice (some ⟨w.heap.size, 0, none⟩) (sg s.data.toList).length cap) W ∧ Below w.heap.size w W ∧ RowR w.heap.size (sg s.data.toList) W ∧ W.heap.size = w.heap.size + 1 ∧ (sg s.data.toList).length ≤ cap := by
  obtain ⟨cap, W, h1, h2, h3, h4⟩ := runes_conv s w hs
  refine ⟨cap, W, h1, h2, h3, h4, ?_⟩
  have e : Conv.runesFrom s s.size 0 #[] = ((sg s.data.toList).map fun (r : Nat) => Value.int .i32 (r : Int)).toArray := by
    rw [runesFrom_eq s s.size 0 #[] (by omega)]; simp
  have hle := sg_le s.data.toList
  have hsz : s.data.toList.length = s.size := rfl
  have hr := run_runes_of_string (P := Tryd.prog) w 9 42 21 s Tryd.underlying9 Tryd.underlying42 Tryd.underlying21 (by rw [e]; simp; omega)
  rw [e] at hr
  simp only [List.size_toArray, List.length_map] at hr
  rw [h1] at hr
  have hc : cap = grownCap w (sg s.data.toList).length 0 21 := by
    injection hr with hv _
    injection hv with _ _ hcap
  rw [hc]
  exact grownCap_ge _ _ _ _
set_option maxHeartbeats 4000000 in
set_option maxRecDepth 100000 in
theorem runquote_w (s : ByteArray) (w : World) (hs : s.size ≤ 1000000) (hT : Tabs w) :
    Calls Tryd.prog 15 #[.string s] w fun e w' => e = .returned (val3 (unqQ s.data.toList)) ∧ Below w.heap.size w w' := by
  obtain ⟨Z, hZ⟩ : ∃ Z, unqQ s.data.toList = Z := ⟨_, rfl⟩
  rw [hZ]
  unfold unqQ at hZ
  cases hv : Lib.validD s.data.toList with
  | false =>
    rw [hv, if_neg (by simp)] at hZ
    go_enter Tryd.func15, Tryd.ntmps15
    go_wp2_with fail
    refine (rvalid_w s _ (by omega) hT.1).mono ?_
    rintro e w1 ⟨rfl, b1⟩
    go_wp2
    refine bodyPost_ret (v := val3 (4, [], 0)) ?_ rfl ⟨?_, b1⟩
    · simp [results, Tryd.results15, go_sem, val3]
    · rw [← hZ]
  | true =>
    rw [hv, if_pos rfl] at hZ
    have hok := okRs_sg s.data.toList
    have eX := en_of_valid hv
    have hle := sg_le s.data.toList
    have hz : s.data.toList.length = s.size := rfl
    have hpre := pre39 (sg s.data.toList) hok
    rw [eX] at hpre
    rw [hpre] at hZ
    go_enter Tryd.func15, Tryd.ntmps15
    go_wp2_with fail
    refine (rvalid_w s _ (by omega) hT.1).mono ?_
    rintro e w1 ⟨rfl, b1⟩
    obtain ⟨ca, W1, k1, B1, r1, z1, hcap⟩ := runes_conv' s w1 hs
    have B1' : Below w.heap.size w W1 := b1.trans (below_le B1 b1.size)
    have hZ1 : Hid (Z = if decide ((sg s.data.toList).head? = some 39) = true then quotQ s.data.toList.length (sg (s.data.toList.drop 1)) else bareQ s.data.toList) := hid hZ.symm
    have hdrop : Hid ((sg s.data.toList).head? = some 39 → sg (s.data.toList.drop 1) = (sg s.data.toList).drop 1) := hid (fun h39 => by
      cases hX : sg s.data.toList with
      | nil => rw [hX] at h39; simp at h39
      | cons r t =>
        rw [hX] at h39
        simp at h39
        subst h39
        rw [← eX, hX]
        show sg ((e1 39 ++ en t).drop 1) = t
        rw [e1_39]
        show sg (en t) = t
        rw [hX] at hok
        exact sg_en0 t (okRs_cons hok).2)
    have hbq : Hid (bareQ s.data.toList = if 255 < bareLen true (sg s.data.toList) then (3, [], 0) else if bareLen true (sg s.data.toList) = 0 then (4, [], 0) else (0, s.data.toList.take (bareLen true (sg s.data.toList)), bareLen true (sg s.data.toList))) := hid rfl
    have hsz : Hid (s.data.toList.length = (en (sg s.data.toList)).length) := hid (by rw [eX])
    clear hZ hpre eX
    generalize sg s.data.toList = X at *
    have hlt : w1.heap.size < W1.heap.size := by omega
    clear b1 B1 z1
    generalize w1.heap.size = g at *
    by_cases hX39 : X.head? = some 39
    · obtain ⟨R, hR⟩ : ∃ R, runQ 255 0 [] 0 0 (X.drop 1) = R := ⟨_, rfl⟩
      have hZq : Hid (Z = if R.1 = 0 then (0, en R.2.1, s.data.toList.length - (en R.2.2).length) else (R.1, [], 0)) := hid (by
        rw [hZ1.out, if_pos (by simp [hX39]), hdrop.out hX39]; unfold quotQ; rw [hR])
      obtain ⟨h0X, c0⟩ : 0 < X.length ∧ W1.cell? ⟨g, 0, none⟩ = some (.int .i32 39) := by
        cases hXc : X with
        | nil => rw [hXc] at hX39; simp at hX39
        | cons r t =>
          rw [hXc] at hX39
          simp at hX39
          subst hX39
          exact ⟨by simp, r1 0 39 (by rw [hXc]; rfl)⟩
      have q1 : ((X.length : Int) == 0) = false := by simp only [beq_eq_false_iff_ne, ne_eq]; omega
      obtain ⟨i0, hi, hz0, hz1, hz2⟩ := info_parts info32
      clear hX39 hZ1 hdrop hbq
      go_wp2
      go_loopw [7, 8] (fun v a wr => ∃ (k num dig : Nat) (out : List Nat), a = .int .i64 (k : Int) ∧ 1 ≤ k ∧ k ≤ X.length ∧ OwnR W1.heap.size v out wr ∧ out.length ≤ 255 ∧ okRs out ∧ Below W1.heap.size W1 wr ∧ Hid (runQ 255 0 out num dig (X.drop k) = R)) (fun _ a _ => X.length - (intOf a).toNat)
      case atStart => exact ⟨1, 0, 0, [], rfl, by omega, by omega, OwnR.nil _ _, by simp, okRs_nil, Below.refl _ _, hid hR⟩
      case round =>
        obtain ⟨k, num, dig, out, rfl, hk1, hkX, hown, hout, hoko, hbw, hH⟩ := hrel
        clear hR
        have hrow : RowR g X wr := r1.below hbw
        have sbw := hbw.size
        have BW : Below w.heap.size w wr := B1'.trans (below_le hbw B1'.size)
        obtain ⟨ao, cap, rfl⟩ := hown.shape
        by_cases hk : k < X.length
        · have hkz : (k : Int) < (X.length : Int) := by omega
          obtain ⟨r, hr⟩ : ∃ r, X[k]? = some r := ⟨X[k], by simp [hk]⟩
          have cr := hrow k r hr
          have hokr : okR r := hok r (List.mem_of_getElem? hr)
          have hrl : r ≤ 1114111 := by unfold okR at hokr; omega
          have hdr : Hid (X.drop k = r :: X.drop (k + 1)) := hid (drop_at hr)
          by_cases h39 : r = 39
          · have n39 : ((r : Int) != 39) = false := by rw [h39]; rfl
            have hRes : Hid (R = (0, out, X.drop (k + 1))) := hid (by rw [← hH.out, hdr.out, runQ, if_pos ⟨rfl, h39⟩])
            have hst : ∀ n, (convert 42 9 (.slice ao out.length cap)).run Tryd.prog (wr.drewN n) = .ok (.string ⟨(en out).toArray⟩) (wr.drewN n) := fun n => OwnR.string (hown.drewN n) hoko
            have hoktk : okRs (X.take (k + 1)) := fun x hx => hok x (List.mem_of_mem_take hx)
            have hst2 : ∀ n c2, (convert 42 9 (.slice (some ⟨g, 0, none⟩) (k + 1) c2)).run Tryd.prog (wr.drewN n) = .ok (.string ⟨(en (X.take (k + 1))).toArray⟩) (wr.drewN n) := fun n c2 => by
              refine string_of_runes g (k + 1) c2 (X.take (k + 1)) (wr.drewN n) hoktk (fun j x hj => ?_) (by rw [List.length_take]; omega)
              have hj2 : j < k + 1 := by have := (List.getElem?_eq_some_iff.1 hj).1; rw [List.length_take] at this; omega
              rw [List.getElem?_take, if_pos hj2] at hj
              exact r1.below (below_drewNv hbw n) j x hj
            have hlen3 : Hid (s.data.toList.length - (en (X.drop (k + 1))).length = (en (X.take (k + 1))).length) := hid (by
              have h1 := hsz.out
              rw [← List.take_append_drop (k + 1) X, en_append, List.length_append] at h1
              omega)
            have hkz3 : ¬ (X.length : Int) ≤ (k : Int) := by omega
            have hkz4 : (k : Int) + 1 ≤ (ca : Int) := by omega
            have hkz5 : (0 : Int) ≤ (k : Int) + 1 := by omega
            clear h39
            go_wp2
            go_quiet (fail)
            go_wp2
            refine bodyPost_ret (v := val3 (0, en out, (en (X.take (k + 1))).length)) ?_ rfl ⟨?_, B1'.trans (below_le (below_drewNv hbw nq) B1'.size)⟩
            · simp [results, Tryd.results15, go_sem, val3]
            · rw [hZq.out, hRes.out]
              simp only [if_true]
              rw [hlen3.out]
          · have n39 : ((r : Int) != 39) = true := by simp; omega
            by_cases h92 : r = 92
            · have n92 : ((r : Int) == 92) = true := by rw [h92]; rfl
              have hone : Hid (runQ 255 1 out num dig (X.drop (k + 1)) = R) := hid (by
                rw [← hH.out, hdr.out]
                exact (runQ_step 255 0 out num dig r _ 1 out num dig (by omega) (by
                  rw [h92]; unfold takeQ; rw [if_neg (by decide), if_neg (by decide), if_neg (by decide), if_pos rfl])).symm)
              have ce := escape_w g ca (k + 1) X wr hrow hok (by omega) (by omega)
              rw [show ((k + 1 : Nat) : Int) = (k : Int) + 1 by omega] at ce
              clear h39 h92
              go_wp2_with fail
              refine ce.mono ?_
              rintro e w2 ⟨r2, at2, er, rfl, b2, hE⟩
              have BW2 : Below w.heap.size w w2 := BW.trans (below_le b2 BW.size)
              have hown2 := hown.below b2
              have hbw2 := hbw.trans (below_le b2 sbw)
              have s2 := b2.size
              rcases hE with ⟨rfl, hok2, hlt2, hle2, hgo, hfull⟩ | ⟨hne, hbad⟩
              · by_cases hl : out.length = 255
                · have hRes : Hid (R = (3, [], [])) := hid (by rw [← hone.out, hfull _ _ _ hl])
                  have hlz : (255 : Int) ≤ (out.length : Int) := by omega
                  clear hl
                  go_wp2
                  refine bodyPost_ret (v := val3 (3, [], 0)) ?_ rfl ⟨by rw [hZq.out, hRes.out]; rfl, BW2⟩
                  simp [results, Tryd.results15, go_sem, val3]
                · have hlz : ¬ (255 : Int) ≤ (out.length : Int) := by omega
                  obtain ⟨n', d', hgo'⟩ := hgo out num dig (by omega)
                  have hgoR : Hid (runQ 255 0 (out ++ [r2]) n' d' (X.drop at2) = R) := hid (by rw [← hone.out, hgo'])
                  clear hgo' hgo hfull
                  (
                  go_wp2_with (at_builtin; refine wpList_append_own _ rfl _ _ 42 rfl W1.heap.size 21 i0 (.int .i32 0) 1 4 Tryd.underlying42 hi hz0 hz1 hz2 rfl (by decide) _ _ _ rfl (World.ownsRow.alloc hown2 _) ⟨w2.heap.size, 0, none⟩ 1 1 [.int .i32 (r2 : Int)] rfl rfl ?c1 ?c2 ?c3 ?c4 ?c5 ?_)
                  try (case c1 =>
                    intro j u hj
                    match j, hj with
                    | 0, hj => simp at hj; subst hj; simp [Addr.add]
                    | j + 1, hj => simp at hj)
                  case c2 => first | rfl | (intro u hu; simp at hu; subst hu; rfl)
                  case c3 => unfold maxLen; omega
                  case c4 => omega
                  case c5 => have := (hbw2).size; simp; omega
                  intro v' w5 hown5 hgrow _
                  have hown6 : OwnR W1.heap.size v' (out ++ [r2]) w5 := by
                    unfold OwnR
                    have el : (out ++ [r2]).length = out.length + 1 := by simp
                    rw [el, List.map_append]
                    exact hown5
                  have hbw6 : Below W1.heap.size W1 w5 := ((hbw2).alloc (hbw2).size _).grown hgrow (by have := (hbw2).size; simp; omega) (fun q hq => ((hown2).lt q hq).1)
                  go_wp2
                  go_roundw
                  case rel => exact ⟨at2, n', d', out ++ [r2], by go_num, by omega, by omega, hown6, by simp; omega, okRs_append hoko (okRs_one hok2), hbw6, (hgoR)⟩
                  case measure => (simp [intOf]; try omega))
              · have hRes : Hid (R = (er, [], [])) := hid (by rw [← hone.out, hbad])
                have hez : ((er : Int) == 0) = false := by simp; omega
                have hez2 : ((er : Int) != 0) = true := by simp; omega
                go_wp2
                refine bodyPost_ret (v := val3 (er, [], 0)) ?_ rfl ⟨by rw [hZq.out, hRes.out]; simp only []; rw [if_neg hne], BW2⟩
                simp [results, Tryd.results15, go_sem, val3]
            · have n92 : ((r : Int) == 92) = false := by simp; omega
              cases hh : hiddenB r with
              | true =>
                have hRes : Hid (R = (4, [], [])) := hid (by
                  have ht : takeQ 255 0 out num dig r = (4, 0, out, num, dig) := by
                    unfold takeQ; rw [if_neg (by decide), if_neg (by decide), if_pos hh]
                  rw [← hH.out, hdr.out, runQ_bad 255 0 out num dig r _ (by omega) (by rw [ht]; simp), ht])
                have hz' : (r : Int) < 32 ∨ (¬ (r : Int) < 32 ∧ ((r : Int) == 127) = true) := by
                  simp [hiddenB] at hh
                  by_cases h32 : r < 32
                  · exact Or.inl (by omega)
                  · exact Or.inr ⟨by omega, by simp; omega⟩
                clear h39 h92
                rcases hz' with hz' | ⟨hz', hz2'⟩
                all_goals
                  go_wp2
                  refine bodyPost_ret (v := val3 (4, [], 0)) ?_ rfl ⟨by rw [hZq.out, hRes.out]; rfl, BW⟩
                  simp [results, Tryd.results15, go_sem, val3]
              | false =>
                have g1 : ¬ ((r : Int) < 32) := by simp [hiddenB] at hh; omega
                have g2 : ((r : Int) == 127) = false := by simp [hiddenB] at hh; simp; omega
                have htk : takeQ 255 0 out num dig r = addQ 255 out num dig r := by
                  unfold takeQ; rw [if_neg (by decide), if_neg (by decide), if_neg (by simp [hh]), if_neg h92]
                by_cases hl : out.length = 255
                · have hRes : Hid (R = (3, [], [])) := hid (by
                    have ht : takeQ 255 0 out num dig r = (3, 0, out, num, dig) := by rw [htk]; unfold addQ; rw [if_pos hl]
                    rw [← hH.out, hdr.out, runQ_bad 255 0 out num dig r _ (by omega) (by rw [ht]; simp), ht])
                  have hlz : (255 : Int) ≤ (out.length : Int) := by omega
                  clear hl h39 h92
                  go_wp2
                  refine bodyPost_ret (v := val3 (3, [], 0)) ?_ rfl ⟨by rw [hZq.out, hRes.out]; rfl, BW⟩
                  simp [results, Tryd.results15, go_sem, val3]
                · have hlz : ¬ (255 : Int) ≤ (out.length : Int) := by omega
                  have hgoR : Hid (runQ 255 0 (out ++ [r]) num dig (X.drop (k + 1)) = R) := hid (by
                    rw [← hH.out, hdr.out]
                    exact (runQ_step 255 0 out num dig r _ 0 (out ++ [r]) num dig (by omega) (by rw [htk, addQ_ok _ _ _ _ _ (by omega)])).symm)
                  clear h39 h92 htk
                  (
                  go_wp2_with (at_builtin; refine wpList_append_own _ rfl _ _ 42 rfl W1.heap.size 21 i0 (.int .i32 0) 1 4 Tryd.underlying42 hi hz0 hz1 hz2 rfl (by decide) _ _ _ rfl (World.ownsRow.alloc hown _) ⟨wr.heap.size, 0, none⟩ 1 1 [.int .i32 (r : Int)] rfl rfl ?c1 ?c2 ?c3 ?c4 ?c5 ?_)
                  try (case c1 =>
                    intro j u hj
                    match j, hj with
                    | 0, hj => simp at hj; subst hj; simp [Addr.add]
                    | j + 1, hj => simp at hj)
                  case c2 => first | rfl | (intro u hu; simp at hu; subst hu; rfl)
                  case c3 => unfold maxLen; omega
                  case c4 => omega
                  case c5 => have := (hbw).size; simp; omega
                  intro v' w5 hown5 hgrow _
                  have hown6 : OwnR W1.heap.size v' (out ++ [r]) w5 := by
                    unfold OwnR
                    have el : (out ++ [r]).length = out.length + 1 := by simp
                    rw [el, List.map_append]
                    exact hown5
                  have hbw6 : Below W1.heap.size W1 w5 := ((hbw).alloc (hbw).size _).grown hgrow (by have := (hbw).size; simp; omega) (fun q hq => ((hown).lt q hq).1)
                  go_wp2
                  go_roundw
                  case rel => exact ⟨(k + 1), num, dig, out ++ [r], by go_num, by omega, by omega, hown6, by simp; omega, okRs_append hoko (okRs_one hokr), hbw6, (hgoR)⟩
                  case measure => (simp [intOf]; try omega))
        · have hkz : ¬ (k : Int) < (X.length : Int) := by omega
          have hkz2 : (X.length : Int) ≤ (k : Int) := by omega
          have hRes : Hid (R = (2, [], [])) := hid (by rw [← hH.out, List.drop_eq_nil_of_le (by omega)]; rfl)
          go_wp2
          refine bodyPost_ret (v := val3 (2, [], 0)) ?_ rfl ⟨by rw [hZq.out, hRes.out]; rfl, BW⟩
          simp [results, Tryd.results15, go_sem, val3]
    · have hZb : Hid (Z = if 255 < bareLen true X then (3, [], 0) else if bareLen true X = 0 then (4, [], 0) else (0, s.data.toList.take (bareLen true X), bareLen true X)) := hid (by
        rw [hZ1.out, if_neg (by simp [hX39]), hbq.out])
      have hhead : (((X.length : Int) == 0) = true) ∨ (((X.length : Int) == 0) = false ∧ ∃ r : Nat, W1.cell? ⟨g, 0, none⟩ = some (.int .i32 (r : Int)) ∧ ((r : Int) != 39) = true ∧ 0 < X.length) := by
        cases hXc : X with
        | nil => left; rfl
        | cons r t =>
          right
          refine ⟨by simp; omega, r, r1 0 r (by rw [hXc]; rfl), ?_, by simp⟩
          have : ¬ r = 39 := fun e => hX39 (by rw [hXc, e]; rfl)
          simp; omega
      clear hX39 hZ1 hdrop hbq hsz
      rcases hhead with q1 | ⟨q1, r0, c0, q2, q3⟩
      all_goals
        go_wp2
        go_loopw [6] (fun n wr => ∃ (k : Nat), n = .int .i64 (k : Int) ∧ wr = W1 ∧ k ≤ 255 ∧ k ≤ X.length ∧ Hid (k + bareLen (decide (k = 0)) (X.drop k) = bareLen true X)) (fun n _ => X.length - (intOf n).toNat)
        case atStart => exact ⟨0, rfl, rfl, by omega, by omega, hid (by simp)⟩
        case round =>
          obtain ⟨k, rfl, rfl, hk5, hkX, hH⟩ := hrel
          by_cases hk : k < X.length
          · have hkz : (k : Int) < (X.length : Int) := by omega
            obtain ⟨d, hd⟩ : ∃ d, X[k]? = some d := ⟨X[k], by simp [hk]⟩
            have cd := r1 k d hd
            have hfi : ((k : Int) == 0) = decide (k = 0) := by rw [Bool.eq_iff_iff]; simp
            have cp := rplain_w d (decide (k = 0)) wr
            have hdr : Hid (X.drop k = d :: X.drop (k + 1)) := hid (drop_at hd)
            cases hbb : bareB d (decide (k = 0)) with
            | true =>
              rw [hbb] at cp
              have hH2 : Hid (k + 1 + bareLen false (X.drop (k + 1)) = bareLen true X) := hid (by
                have h1 := hH.out
                rw [hdr.out, bareLen, if_pos hbb] at h1
                omega)
              by_cases h5 : k = 255
              · have h5z : (255 : Int) ≤ (k : Int) := by omega
                have hRes : Hid (Z = (3, [], 0)) := hid (by rw [hZb.out, if_pos (by have := hH2.out; omega)])
                clear h5
                go_wp2_with fail
                refine cp.mono ?_
                rintro e w9 ⟨rfl, rfl⟩
                go_wp2
                refine bodyPost_ret (v := val3 (3, [], 0)) ?_ rfl ⟨by rw [hRes.out], B1'⟩
                simp [results, Tryd.results15, go_sem, val3]
              · have h5z : ¬ (255 : Int) ≤ (k : Int) := by omega
                go_wp2_with fail
                refine cp.mono ?_
                rintro e w9 ⟨rfl, rfl⟩
                go_wp2
                go_roundw
                case rel =>
                  have hdd : decide (k + 1 = 0) = false := by simp
                  exact ⟨k + 1, by go_num, trivial, by omega, by omega, hid (by rw [hdd]; exact hH2.out)⟩
                case measure => (simp [intOf]; try omega)
            | false =>
              rw [hbb] at cp
              have hn : bareLen true X = k := by
                have h1 := hH.out
                rw [hdr.out, bareLen, if_neg (by simp [hbb])] at h1
                omega
              (
            (go_wp2_with fail; refine cp.mono ?_; rintro e w9 ⟨rfl, rfl⟩)
            by_cases h0 : k = 0
            · have h0z : ((k : Int) == 0) = true := by rw [h0]; rfl
              have h0d : decide (k = 0) = true := by simp [h0]
              have hRes : Hid (Z = (4, [], 0)) := hid (by rw [hZb.out, hn, if_neg (by omega), if_pos h0])
              clear hn h0
              go_wp2
              refine bodyPost_ret (v := val3 (4, [], 0)) ?_ rfl ⟨by rw [hRes.out], B1'⟩
              simp [results, Tryd.results15, go_sem, val3]
            · have h0z : ((k : Int) == 0) = false := by simp; omega
              have h0d : decide (k = 0) = false := by simp [h0]
              have hRes : Hid (Z = (0, s.data.toList.take k, k)) := hid (by rw [hZb.out, hn, if_neg (by omega), if_neg h0])
              have hext : (⟨(s.data.toList.take k).toArray⟩ : ByteArray) = s.extract 0 k := by rw [← head_list, bytes_eq']
              have hkz2 : (k : Int) ≤ (s.size : Int) := by omega
              clear hn
              go_wp2
              refine bodyPost_ret (v := val3 (0, s.data.toList.take k, k)) ?_ rfl ⟨by rw [hRes.out], B1'⟩
              simp [results, Tryd.results15, go_sem, val3, hext])
          · have hkz : ¬ (k : Int) < (X.length : Int) := by omega
            have hn : bareLen true X = k := by
              have h1 := hH.out
              rw [List.drop_eq_nil_of_le (by omega)] at h1
              simp only [bareLen] at h1
              omega
            (
            skip
            by_cases h0 : k = 0
            · have h0z : ((k : Int) == 0) = true := by rw [h0]; rfl
              have h0d : decide (k = 0) = true := by simp [h0]
              have hRes : Hid (Z = (4, [], 0)) := hid (by rw [hZb.out, hn, if_neg (by omega), if_pos h0])
              clear hn h0
              go_wp2
              refine bodyPost_ret (v := val3 (4, [], 0)) ?_ rfl ⟨by rw [hRes.out], B1'⟩
              simp [results, Tryd.results15, go_sem, val3]
            · have h0z : ((k : Int) == 0) = false := by simp; omega
              have h0d : decide (k = 0) = false := by simp [h0]
              have hRes : Hid (Z = (0, s.data.toList.take k, k)) := hid (by rw [hZb.out, hn, if_neg (by omega), if_neg h0])
              have hext : (⟨(s.data.toList.take k).toArray⟩ : ByteArray) = s.extract 0 k := by rw [← head_list, bytes_eq']
              have hkz2 : (k : Int) ≤ (s.size : Int) := by omega
              clear hn
              go_wp2
              refine bodyPost_ret (v := val3 (0, s.data.toList.take k, k)) ?_ rfl ⟨by rw [hRes.out], B1'⟩
              simp [results, Tryd.results15, go_sem, val3, hext])
end Go.Proofs.YtppfgcbigohkkaaDoor
