/- TextLists, walked. -/
import Derived.Test.YtjacoodfhkaioaaGreatDoorTextPrintsW
import Derived.Test.YtjacoodfhkaioaaGreatDoorTextListsN
import Derived.Test.YtjacoodfhkaioaaGreatDoorChK
import Derived.Test.YtjacoodfhkaioaaGreatDoorChU
namespace Go.Proofs.YtjacoodfhkaioaaGreatDoor
open Go.ChangeShapes Go.WideShapes Go.ChangeAt Go.ChangeMaps Go.RowKit Go.Shelf
set_option linter.unusedSimpArgs false
set_option linter.unusedVariables false
set_option maxRecDepth 2000
/-- what Rooms says of the terms of a row -/
theorem rooms_facts7 {w : World} {l : List Tm} {o : Option Addr} (hT : TR (Low w) w l o) (h : l.all okRow = true) :
    (∀ p ∈ partsL l, p.ok1 ∧ fairB p = true) ∧ depL l ≤ 9 ∧ ∀ t ∈ l, (parts t).length ≤ 65536 := by
  rw [List.all_eq_true] at h
  have h1 : ∀ t ∈ l, (∀ p ∈ parts t, p.ok1 ∧ fairB p = true) ∧ dep t ≤ 9 ∧ (parts t).length ≤ 65536 := fun t ht => by
    have h2 := h t ht
    unfold okRow at h2
    rw [Bool.and_eq_true] at h2
    obtain ⟨v, hv⟩ := hT.mem ht
    obtain ⟨g1, g2⟩ := room_ok (by omega) t v 8 hv h2.1
    obtain ⟨g3, g4⟩ := may_parts h2.2
    exact ⟨fun p hp => ⟨g1 p hp, g4 p hp⟩, by omega, g3⟩
  clear h hT
  refine ⟨?_, ?_, fun t ht => (h1 t ht).2.2⟩
  · intro p hp
    induction l with
    | nil => simp [partsL] at hp
    | cons t l ih =>
      simp only [partsL, List.mem_append] at hp
      rcases hp with hp | hp
      · exact (h1 t (by simp)).1 p hp
      · exact ih (fun t ht => h1 t (by simp [ht])) hp
  · induction l with
    | nil => simp [depL]
    | cons t l ih =>
      simp only [depL]
      have := (h1 t (by simp)).2.1
      have := ih (fun t ht => h1 t (by simp [ht]))
      omega
theorem dep_mem {t : Tm} : ∀ {l : List Tm}, t ∈ l → dep t ≤ depL l
  | [], h => by simp at h
  | u :: l, h => by
    simp only [depL]
    rcases List.mem_cons.1 h with rfl | h
    · omega
    · have := dep_mem h; omega
theorem ok_listT : ∀ l : List Tm, (∀ p ∈ partsL l, p.ok1) → ∀ p ∈ parts (listT l), p.ok1
  | [], _, p, hp => by
    have : p = nilT := by simpa [listT, nilT, parts, partsL] using hp
    rw [this]; exact ok_flat 5 0 (by decide)
  | t :: l, h, p, hp => by
    have hp : p ∈ parts (consT t (listT l)) := hp
    rw [parts_consT] at hp
    rcases List.mem_cons.1 hp with rfl | hp
    · show (Tm.mk 6 false [] noS 0 [t, listT l] []).ok1
      exact ⟨by simp, by decide, by simp, by simp, Lm.nil _⟩
    · rcases List.mem_append.1 hp with hp | hp
      · exact h p (by simp [partsL, hp])
      · exact ok_listT l (fun q hq => h q (by simp [partsL, hq])) p hp
theorem ok_tupT (l : List Tm) (hl : l.length ≤ 255) (h : ∀ p ∈ partsL l, p.ok1) : ∀ p ∈ parts (tupT l), p.ok1 := fun p hp => by
  rw [parts_tupT] at hp
  rcases List.mem_cons.1 hp with rfl | hp
  · show (Tm.mk 4 false [] noS 0 l []).ok1
    exact ⟨by simp, by decide, by omega, by simp, Lm.nil _⟩
  · exact h p hp
theorem prE_zero {T : Tm} (h : prE T = 0) : mayB T = true ∧ (tx T).length ≤ 65536 ∧ prS T = tx T := by
  unfold prE at h
  unfold prS
  split at h
  · rename_i hm
    split at h
    · rename_i hl
      rw [if_pos hm, if_pos hl]
      exact ⟨hm, hl, rfl⟩
    · simp at h
  · simp at h
end Go.Proofs.YtjacoodfhkaioaaGreatDoor
namespace Go.Proofs.YtjacoodfhkaioaaGreatDoor.textLists
open Go.ChangeShapes Go.WideShapes Go.ChangeAt Go.ChangeMaps Go.RowKit Go.Shelf
set_option linter.unusedSimpArgs false
set_option linter.unusedVariables false
set_option maxRecDepth 2000
abbrev Tabs (w : World) : Prop := TabX w
set_option maxHeartbeats 4000000 in
set_option maxRecDepth 8000 in
theorem walk {H : Type} (enc : TypeId × Value → H) (base : Nat) (w : World) (v0 : Value) (d0 : DataW H) (p0 : List MemPlace)
    (o0 : Value.okWide Tryz.prog w .any base 24 v0) (h0 : DataW.Trod enc Tryz.prog w 0 (fun _ => true) true 24 v0 d0 p0)
    (hT : Tabs w) :
    Calls Tryz.prog 8 #[v0] w fun e w' => e = .returned (.bool true) ∧ Below w.heap.size w w' := by
  obtain ⟨o, l, c, rfl, hR0, hlc⟩ := open_terms o0 h0
  clear o0 h0
  go_enter Tryz.func8, Tryz.ntmps8
  go_wp2_with fail
  refine (awake_ok _ hT).mono ?_
  rintro e w1 ⟨rfl, B1⟩
  have hR1 := tr_below hR0 B1
  go_wp2_with fail
  refine (Rooms_w 20 (by omega) l o c _ hR1 (hT.below B1).1.1).mono ?_
  rintro e w2 ⟨rfl, b2⟩
  have B2 := below_and B1 (Nat.le_refl _) b2
  have hR2 := tr_below hR1 b2
  obtain ⟨bb, hbb⟩ : ∃ bb, (decide (l.length ≤ 20) && l.all okRow) = bb := ⟨_, rfl⟩
  rw [hbb]
  cases bb with
  | false =>
    clear hbb
    go_wp2
    go_ret
    exact ⟨rfl, B2⟩
  | true =>
  rw [Bool.and_eq_true] at hbb
  have hl20 : l.length ≤ 20 := of_decide_eq_true hbb.1
  have Hf := hid (rooms_facts7 hR2 hbb.2)
  have HT := hid (fun w' (hk : Below w.heap.size w w') => hT.below hk)
  have HB2 := hid B2
  have HR0 := hid hR0
  have hlz : (l.length : Int) ≤ 20 := by omega
  clear hbb hR0 hR1 B1 b2 hT B2 hR2
  go_wp2_with fail
  go_loopw [3, 4] (fun s v wr => ∃ (j : Nat) (S : ByteArray), s = .string S ∧ v = .int .i64 (j : Int) ∧ j ≤ l.length ∧ Hid (S = bs (joinC ((l.take j).map tx))) ∧ Hid (∀ t ∈ l.take j, mayB t = true) ∧ S.size ≤ 40001 ∧ Hid (Below w.heap.size w wr)) (fun _ v _ => l.length - (intOf v).toNat)
  case atStart => exact ⟨0, ⟨#[]⟩, rfl, rfl, Nat.zero_le _, hid rfl, hid (by simp), by decide, HB2⟩
  case round =>
    obtain ⟨j, S, rfl, rfl, hj, hS, hM, hSz, hB⟩ := hrel
    by_cases hjb : j < l.length
    · have hjz : (j : Int) < (l.length : Int) := by omega
      obtain ⟨x, hx⟩ : ∃ x, l[j]? = some x := ⟨l[j], by simp⟩
      have hxm : x ∈ l := List.mem_of_getElem? hx
      obtain ⟨a, kk, neg1, od1, ld1, cd1, nm1, n1, oo1, ll1, cc1, ob1, lb1, cb1, rfl, hTV, u0, u1, u2, u3, u4, u5, u6⟩ := HR0.out.get2 hx hB.out
      have c1 := print_w x _ wr (by have := dep_mem hxm; have := Hf.out.2.1; omega) (fun p hp => (Hf.out.1 p (mem_parts_of hp hxm)).1) (tv_below hTV hB.out) (HT.out _ hB.out).1.1 (HT.out _ hB.out).1 (HT.out _ hB.out).2
      unfold tmV at c1
      obtain ⟨E, hE⟩ : ∃ E, prE x = E := ⟨_, rfl⟩
      obtain ⟨D, hD⟩ : ∃ D : ByteArray, ⟨(prS x).toArray⟩ = D := ⟨_, rfl⟩
      rw [hE, hD] at c1
      have hEH := hid hE
      have hDH := hid hD
      have hts : Hid ((l.take (j + 1)).map tx = (l.take j).map tx ++ [tx x]) := hid (by rw [take_tm hx, List.map_append]; rfl)
      have htk : Hid (l.take (j + 1) = l.take j ++ [x]) := hid (take_tm hx)
      have hSb := hid hSz
      clear hE hD hx hTV
      go_wp2_with fail
      refine c1.mono ?_
      rintro e w3 ⟨rfl, b3⟩
      have hB3 := hid (below_and hB.out (Nat.le_refl _) b3)
      clear c1
      by_cases hE0 : E = 0
      · subst hE0
        obtain ⟨hm, _, hp⟩ := prE_zero hEH.out
        have hDe : Hid (D = bs (tx x)) := hid (by rw [← hDH.out, hp]; rfl)
        have hM' : Hid (∀ t ∈ l.take (j + 1), mayB t = true) := hid (by
          rw [htk.out]
          intro t ht
          rcases List.mem_append.1 ht with ht | ht
          · exact hM.out t ht
          · simp at ht; rw [ht]; exact hm)
        clear hp hm
        by_cases hs2 : (20000 : Int) < (S.size : Int)
        · go_wp2
          go_ret
          exact ⟨rfl, hB3.out⟩
        · by_cases hd2 : (20000 : Int) < (D.size : Int)
          · go_wp2
            go_ret
            exact ⟨rfl, hB3.out⟩
          · by_cases h0 : j = 0
            · subst h0
              obtain ⟨S2, hS2⟩ : ∃ S2, S ++ D = S2 := ⟨_, rfl⟩
              have hsz : ¬ 9223372036854775807 < S.size + D.size := by omega
              have hz2 : S2.size ≤ 40001 := by rw [← hS2, ByteArray.size_append]; omega
              have hz2H := hid hz2
              have hS2H : Hid (S2 = bs (joinC ((l.take 1).map tx))) := hid (by
                have e := hts.out
                simp only [Nat.zero_add, List.take_zero, List.map_nil, List.nil_append] at e
                rw [e, ← hS2, hS.out, hDe.out, bs_cat]
                simp [joinC])
              clear hz2
              go_wp2
              exact ⟨⟨1, S2, rfl, by go_num, by omega, hS2H, hM', hz2H.out, hB3⟩, by simp [intOf]; omega⟩
            · have hk0 : (0 : Int) < (j : Int) := by omega
              obtain ⟨S1, hS1⟩ : ∃ S1, S ++ (⟨#[44]⟩ : ByteArray) = S1 := ⟨_, rfl⟩
              obtain ⟨S2, hS2⟩ : ∃ S2, S1 ++ D = S2 := ⟨_, rfl⟩
              have hz1 : S1.size = S.size + 1 := by rw [← hS1, ByteArray.size_append]; rfl
              have hz2 : S2.size ≤ 40001 := by rw [← hS2, ByteArray.size_append]; omega
              have hsz1 : ¬ 9223372036854775807 < S.size + 1 := by omega
              have hsz : ¬ 9223372036854775807 < S1.size + D.size := by omega
              have hz2H := hid hz2
              have hS2H : Hid (S2 = bs (joinC ((l.take (j + 1)).map tx))) := hid (by
                have e := hts.out
                have hne : (l.take j).map tx ≠ [] := by
                  intro e2
                  have := congrArg List.length e2
                  rw [List.length_map, List.length_take] at this
                  simp only [List.length_nil] at this
                  omega
                rw [e, joinC_snoc, if_neg hne, ← hS2, ← hS1, hS.out, hDe.out, bs_lit [44] #[44] rfl, bs_cat, bs_cat]
                simp)
              clear hz1 hz2 h0
              go_wp2
              exact ⟨⟨j + 1, S2, rfl, by go_num, by omega, hS2H, hM', hz2H.out, hB3⟩, by simp [intOf]; omega⟩
      · have hne : (E != 0) = true := by simp [hE0]
        go_wp2
        go_ret
        exact ⟨rfl, hB3.out⟩
    · have hjz : ¬ (j : Int) < (l.length : Int) := by omega
      have hall : l.take j = l := List.take_of_length_le (by omega)
      have hM2 := hM.out
      have hS2 := hS.out
      rw [hall] at hM2 hS2
      have hJ : (joinC (l.map tx)).length ≤ 60000 := by rw [hS2, bs_size] at hSz; omega
      obtain ⟨p1, p2, p3, p4⟩ := lists_print hl20 hM2 (fun t ht p hp => (Hf.out.1 p (mem_parts_of hp ht)).1) hJ
      obtain ⟨Y1, hY1⟩ : ∃ Y1, (⟨#[91]⟩ : ByteArray) ++ S = Y1 := ⟨_, rfl⟩
      obtain ⟨Y2, hY2⟩ : ∃ Y2, (⟨#[123]⟩ : ByteArray) ++ S = Y2 := ⟨_, rfl⟩
      obtain ⟨X1, hX1⟩ : ∃ X1 : ByteArray, ⟨(91 :: (joinC (l.map tx) ++ [93])).toArray⟩ = X1 := ⟨_, rfl⟩
      obtain ⟨X2, hX2⟩ : ∃ X2 : ByteArray, ⟨(123 :: (joinC (l.map tx) ++ [125])).toArray⟩ = X2 := ⟨_, rfl⟩
      have e1 : Y1 ++ (⟨#[93]⟩ : ByteArray) = X1 := by
        rw [← hY1, ← hX1, hS2, bs_lit [91] #[91] rfl, bs_lit [93] #[93] rfl, bs_cat, bs_cat]
        simp [bs]
      have e2 : Y2 ++ (⟨#[125]⟩ : ByteArray) = X2 := by
        rw [← hY2, ← hX2, hS2, bs_lit [123] #[123] rfl, bs_lit [125] #[125] rfl, bs_cat, bs_cat]
        simp [bs]
      have hz1 : Y1.size = 1 + S.size := by rw [← hY1, ByteArray.size_append]; rfl
      have hz2 : Y2.size = 1 + S.size := by rw [← hY2, ByteArray.size_append]; rfl
      have hq1 : ¬ 9223372036854775807 < 1 + S.size := by omega
      have hq2 : ¬ 9223372036854775807 < Y1.size + 1 := by omega
      have hq3 : ¬ 9223372036854775807 < Y2.size + 1 := by omega
      have hdep := dep_list l
      have hdep2 : dep (tupT l) = depL l + 1 := by simp [tupT, dep]
      have hd9 := Hf.out.2.1
      have hok := fun p hp => (Hf.out.1 p hp).1
      have c1 := rList_w l o c wr (by omega) Hf.out.1 (tr_below HR0.out hB.out)
      have c2 := fun w' v' (hb : Below w.heap.size w w') hv => print_w (listT l) v' w' (by omega) (ok_listT l hok) hv (HT.out _ hb).1.1 (HT.out _ hb).1 (HT.out _ hb).2
      have c3 := fun w' (hb : Below w.heap.size w w') => rTuple_w l o c w' (by omega) Hf.out.1 (tr_below HR0.out hb)
      have c4 := fun w' v' (hb : Below w.heap.size w w') hv => print_w (tupT l) v' w' (by omega) (ok_tupT l (by omega) hok) hv (HT.out _ hb).1.1 (HT.out _ hb).1 (HT.out _ hb).2
      rw [p1, p3, hX1] at c2
      rw [p2, p4, hX2] at c4
      clear hall hM2 hS2 hJ p1 p2 p3 p4 hX1 hX2 hz1 hz2 hdep hdep2 hd9 hok hS hM
      go_wp2_with fail
      refine c1.mono ?_
      rintro e w3 ⟨v3, rfl, hT3, b3⟩
      have B3 := below_and hB.out (Nat.le_refl _) b3
      go_wp2_with fail
      refine (c2 w3 v3 B3 (tv_low hT3)).mono ?_
      rintro e w4 ⟨rfl, b4⟩
      have B4 := below_and B3 (Nat.le_refl _) b4
      clear hT3 b3 b4 c1 c2
      go_wp2_with fail
      refine (c3 w4 B4).mono ?_
      rintro e w5 ⟨v5, rfl, hT5, b5⟩
      have B5 := below_and B4 (Nat.le_refl _) b5
      go_wp2_with fail
      refine (c4 w5 v5 B5 (tv_low hT5)).mono ?_
      rintro e w6 ⟨rfl, b6⟩
      have B6 := hid (below_and B5 (Nat.le_refl _) b6)
      clear hT5 b5 b6 c3 c4 B3 B4 B5
      go_wp2
      all_goals go_ret
      all_goals exact ⟨rfl, B6.out⟩
end Go.Proofs.YtjacoodfhkaioaaGreatDoor.textLists
