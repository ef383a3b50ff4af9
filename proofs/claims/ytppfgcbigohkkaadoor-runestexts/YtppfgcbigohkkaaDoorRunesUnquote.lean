/- Unquote of package runes: for every text what the signs say. -/
import Derived.Test.YtppfgcbigohkkaaDoorRunesRead
import Derived.Test.YtppfgcbigohkkaaDoorRunesLess
namespace Go.Proofs.YtppfgcbigohkkaaDoor
open Go.ChangeShapes Go.WideShapes Go.ChangeAt Go.RowKit Go.Shelf
set_option linter.unusedSimpArgs false
set_option linter.unusedVariables false

def bareLen : Bool → List Nat → Nat
  | _, [] => 0
  | f, r :: t => if bareB r f then 1 + bareLen false t else 0
def bareQ (l : List UInt8) : Nat × List UInt8 × Nat :=
  if 255 < bareLen true (sg l) then (3, [], 0) else if bareLen true (sg l) = 0 then (4, [], 0) else (0, l.take (bareLen true (sg l)), bareLen true (sg l))
/-- What stands behind the first quote, read. -/
def quotQ (n : Nat) (t : List Nat) : Nat × List UInt8 × Nat :=
  if (runQ 255 0 [] 0 0 t).1 = 0 then (0, en (runQ 255 0 [] 0 0 t).2.1, n - (en (runQ 255 0 [] 0 0 t).2.2).length) else ((runQ 255 0 [] 0 0 t).1, [], 0)
def unqQ (l : List UInt8) : Nat × List UInt8 × Nat :=
  if Lib.validD l then (if Lib.hasPrefix l [39] then quotQ l.length (sg (l.drop 1)) else bareQ l) else (4, [], 0)
def val3 (q : Nat × List UInt8 × Nat) : Value := .tuple #[.string ⟨q.2.1.toArray⟩, .int .i64 (q.2.2 : Int), .int .i64 (q.1 : Int)]

theorem tail_list (s : ByteArray) : (s.extract 1 s.size).data.toList = s.data.toList.drop 1 := by
  rw [ByteArray.data_extract, Array.toList_extract, List.extract_eq_take_drop]
  rw [List.take_of_length_le]
  rw [List.length_drop]
  exact Nat.le_refl _

set_option maxHeartbeats 4000000 in
theorem readQuoted_w (s : ByteArray) (w : World) (h1 : 1 ≤ s.size) (hs : s.size ≤ 1000000) (hv : Lib.validD (s.data.toList.drop 1) = true) :
    Calls Tryd.prog 25 #[.string s] w fun e w' => e = .returned (val3 (quotQ s.size (sg (s.data.toList.drop 1)))) ∧ Below w.heap.size w w' := by
  obtain ⟨R, hR⟩ : ∃ R, runQ 255 0 [] 0 0 (sg (s.data.toList.drop 1)) = R := ⟨_, rfl⟩
  obtain ⟨Z, hZ⟩ : ∃ Z, quotQ s.size (sg (s.data.toList.drop 1)) = Z := ⟨_, rfl⟩
  rw [hZ]
  have hZR : Hid (Z = if R.1 = 0 then (0, en R.2.1, s.size - (en R.2.2).length) else (R.1, [], 0)) := hid (by rw [← hZ]; unfold quotQ; rw [hR])
  clear hZ
  have h1z : (1 : Int) ≤ (s.size : Int) := by omega
  obtain ⟨X, hX⟩ : ∃ X, s.extract 1 s.size = X := ⟨_, rfl⟩
  have xX : X.data.toList = s.data.toList.drop 1 := by rw [← hX]; exact tail_list s
  have zX : X.size + 1 = s.size := by
    have : X.data.toList.length = s.size - 1 := by rw [xX, List.length_drop]; rfl
    have e : X.data.toList.length = X.size := rfl
    omega
  rw [← xX] at hR hv
  clear xX
  go_enter Tryd.func25, Tryd.ntmps25
  go_wp2
  go_loopw [] (fun wr => ∃ (pos part num dig : Nat) (out : List Nat), Qd w.heap.size w.heap.size part out num dig wr ∧ wr.heap[w.heap.size + 1]? = some (.stringIter X pos) ∧ Below w.heap.size w wr ∧ part ≤ 2 ∧ out.length ≤ 255 ∧ num < 16 ^ dig ∧ dig ≤ 6 ∧ pos ≤ X.size ∧ Hid (Lib.validD (X.data.toList.drop pos) = true) ∧ Hid (runQ 255 part out num dig (sg (X.data.toList.drop pos)) = R)) (fun wr => X.size - wr.iterPos (w.heap.size + 1))
  case atStart =>
    refine ⟨0, 0, 0, 0, [], ?_, ?_, ?_, by omega, by simp, by simp, by omega, by omega, hid (by simpa using hv), hid (by simpa using hR)⟩
    · have hf : Bld 59 w.heap.size w.heap.size [.int .i64 0] [.int .i64 0, .int .i32 0, .int .i64 0] [] (w.alloc (.cells #[.int .i64 0, .pointer none, .slice none 0 0, .int .i64 0, .int .i32 0, .int .i64 0] 59)) :=
        ⟨Nat.le_refl _, by decide, _, _, Or.inl rfl, Go.heap_alloc_new w _, World.ownsRowF_nil _ _ _ _, fun _ => rfl⟩
      exact hf.alloc _
    · have := World.iter_heap (w.alloc (.cells #[.int .i64 0, .pointer none, .slice none 0 0, .int .i64 0, .int .i32 0, .int .i64 0] 59)) X 0
      simpa using this
    · exact ((Below.refl _ w).alloc (Nat.le_refl _) _).alloc (by simp) _
  case round =>
    obtain ⟨pos, part, num, dig, out, hI, hit, hbw, hpart, hout, hnum, hdig, hpX, hvv, hH⟩ := hrel
    clear hv
    have hszr : w.heap.size + 1 < wr.heap.size := lt_of_heap hit
    by_cases hp : pos < X.size
    · have hnx : ∀ ty, (Instr.next (.pointer (some ⟨w.heap.size + 1, 0, none⟩)) true ty).run Tryd.prog wr = _ := fun ty => Lib.run_next_any_at wr (w.heap.size + 1) X pos ty hit hp
      have hwd := Lib.width_pos X pos
      have hrl := Lib.rune_le X pos
      have hA := valid_at X pos hp hvv.out
      have hst : Hid (sg (X.data.toList.drop pos) = _) := hid (sg_at X pos hp)
      obtain ⟨r, hr⟩ : ∃ r, (Utf8.decode X pos).1 = r := ⟨_, rfl⟩
      rw [hr] at hnx hrl
      have hit2 := Lib.iterAt_heap wr (w.heap.size + 1) X pos (pos + (Utf8.decode X pos).2) hit
      have hbw2 := Lib.below_iterAt hbw (k := w.heap.size + 1) (by omega) X (pos + (Utf8.decode X pos).2)
      have hI2 := Bld.iterAt hI hit (pos + (Utf8.decode X pos).2)
      have hsz2 : w.heap.size ≤ (wr.iterAt (w.heap.size + 1) X (pos + (Utf8.decode X pos).2)).heap.size := by rw [Lib.iterAt_size]; omega
      have c0 := Bld.cell hI2 0 _ (fun _ _ => rfl)
      by_cases hend : part = 0 ∧ r = 39
      · obtain ⟨rfl, h39⟩ := hend
        have a1 : ((r : Int) == 39) = true := by rw [h39]; rfl
        have hRes : Hid (R = (0, out, sg (X.data.toList.drop (pos + (Utf8.decode X pos).2)))) := hid (by
          rw [← hH.out, hst.out, hr, runQ, if_pos ⟨rfl, h39⟩])
        have hw1 : (Utf8.decode X pos).2 = 1 := by rw [← hA.2.1, hr, h39]; rfl
        have hlen : (en (sg (X.data.toList.drop (pos + (Utf8.decode X pos).2)))).length = X.size - (pos + 1) := by
          rw [en_of_valid hA.1, List.length_drop, hw1]; rfl
        clear h39 hw1
        go_wp2_with fail
        refine (string_w _ w.heap.size w.heap.size [.int .i64 ((0 : Nat) : Int)] [.int .i64 (out.length : Int), .int .i32 (num : Int), .int .i64 (dig : Int)] (en out) _ hI2).mono ?_
        rintro e w2 ⟨rfl, b2⟩
        go_wp2
        refine bodyPost_ret (v := val3 (0, en out, pos + 2)) ?_ rfl ⟨?_, hbw2.trans b2⟩
        · simp [results, Tryd.results25, go_sem, val3]
          try omega
        · rw [hZR.out, hRes.out]
          simp only [if_true]
          rw [hlen]
          have : s.size - (X.size - (pos + 1)) = pos + 2 := by omega
          rw [this]
      · have hne : ¬ (part = 0 ∧ r = 39) := hend
        have ht : Hid (R = if (takeQ 255 part out num dig r).1 = 0 then runQ 255 (takeQ 255 part out num dig r).2.1 (takeQ 255 part out num dig r).2.2.1 (takeQ 255 part out num dig r).2.2.2.1 (takeQ 255 part out num dig r).2.2.2.2 (sg (X.data.toList.drop (pos + (Utf8.decode X pos).2))) else ((takeQ 255 part out num dig r).1, [], [])) := hid (by
          rw [← hH.out, hst.out, hr, runQ, if_neg hne])
        have ct := take_w w.heap.size w.heap.size part out num dig r hrl _ hI2 hpart hout hsz2 hnum hdig
        have hinv := takeQ_inv part out num dig r hout hnum hdig
        have htest : (((part : Int) == 0) = false) ∨ (((part : Int) == 0) = true ∧ ((r : Int) == 39) = false) := by
          by_cases h0 : part = 0
          · right
            refine ⟨by simp [h0], ?_⟩
            have : ¬ r = 39 := fun e => hne ⟨h0, e⟩
            simp; omega
          · left; simp [h0]
        generalize takeQ 255 part out num dig r = T at *
        obtain ⟨te, tp, tout, tn, td⟩ := T
        simp only [] at ct hinv ht
        by_cases hte : te = 0
        · subst hte
          obtain ⟨i1, i2, i3, i4⟩ := hinv rfl
          rcases htest with t1 | ⟨t1, t2⟩
          all_goals
            go_wp2_with fail
            refine ct.mono ?_
            rintro e w2 ⟨rfl, q2, b2, k2⟩
            have hq := q2 rfl
            have hit3 := k2.iter hit2 (by omega)
            go_wp2
            go_roundw
            case rel =>
              refine ⟨pos + (Utf8.decode X pos).2, tp, tn, td, tout, hq, hit3, hbw2.trans b2, i1, i2, i3, i4, hA.2.2, hid hA.1, hid ?_⟩
              have := ht.out
              simp only [if_true] at this
              exact this.symm
            case measure =>
              simp only [World.iterPos, hit3, hit]
              omega
        · have htz : ((te : Int) == 0) = false := by simp; omega
          have hRes : Hid (R = (te, [], [])) := hid (by rw [ht.out, if_neg hte])
          rcases htest with t1 | ⟨t1, t2⟩
          all_goals
            go_wp2_with fail
            refine ct.mono ?_
            rintro e w2 ⟨rfl, q2, b2, k2⟩
            go_wp2
            refine bodyPost_ret (v := val3 (te, [], 0)) ?_ rfl ⟨?_, hbw2.trans b2⟩
            · simp [results, Tryd.results25, go_sem, val3]
            · rw [hZR.out, hRes.out]; simp only []; rw [if_neg hte]
    · have hnx : ∀ ty, (Instr.next (.pointer (some ⟨w.heap.size + 1, 0, none⟩)) true ty).run Tryd.prog wr = _ := fun ty => Lib.run_next_end_at wr (w.heap.size + 1) X pos ty hit hp
      have hRes : Hid (R = (2, [], [])) := hid (by
        rw [← hH.out, sg_end X pos hp]
        rfl)
      go_wp2
      refine bodyPost_ret (v := val3 (2, [], 0)) ?_ rfl ⟨?_, hbw⟩
      · simp [results, Tryd.results25, go_sem, val3]
      · rw [hZR.out, hRes.out]; rfl

theorem width1 (s : ByteArray) (pos : Nat) (h : pos < s.size) (hr : (Utf8.decode s pos).1 < 128) : (Utf8.decode s pos).2 = 1 := by
  by_cases ha : (s[pos]'h).toNat < 128
  · rw [decode_ascii s pos h ha]
  · have := (decode_high s pos h (by omega)).1
    omega
theorem head_list (s : ByteArray) (n : Nat) : (s.extract 0 n).data.toList = s.data.toList.take n := by
  rw [ByteArray.data_extract, Array.toList_extract, List.extract_eq_take_drop]; simp
theorem bytes_eq' (s : ByteArray) : (⟨s.data.toList.toArray⟩ : ByteArray) = s := by cases s; simp
set_option maxHeartbeats 4000000 in
theorem readBare_w (s : ByteArray) (w : World) (hs : s.size ≤ 1000000) :
    Calls Tryd.prog 26 #[.string s] w fun e w' => e = .returned (val3 (bareQ s.data.toList)) ∧ Below w.heap.size w w' := by
  obtain ⟨Z, hZ⟩ : ∃ Z, bareQ s.data.toList = Z := ⟨_, rfl⟩
  rw [hZ]
  have hZR : Hid (Z = if 255 < bareLen true (sg s.data.toList) then (3, [], 0) else if bareLen true (sg s.data.toList) = 0 then (4, [], 0) else (0, s.data.toList.take (bareLen true (sg s.data.toList)), bareLen true (sg s.data.toList))) := hid (by rw [← hZ]; rfl)
  clear hZ
  go_enter Tryd.func26, Tryd.ntmps26
  go_wp2
  go_loopw [5] (fun n wr => ∃ (pos : Nat), n = .int .i64 (pos : Int) ∧ wr.heap[w.heap.size]? = some (.stringIter s pos) ∧ Below w.heap.size w wr ∧ pos ≤ 255 ∧ pos ≤ s.size ∧ Hid (pos + bareLen (decide (pos = 0)) (sg (s.data.toList.drop pos)) = bareLen true (sg s.data.toList))) (fun _ wr => s.size - wr.iterPos w.heap.size)
  case atStart => exact ⟨0, rfl, (iter_fresh (Below.refl _ w) s).1, (iter_fresh (Below.refl _ w) s).2, by omega, by omega, hid (by simp)⟩
  case round =>
    obtain ⟨pos, rfl, hit, hbw, hp5, hps, hH⟩ := hrel
    by_cases hp : pos < s.size
    · have hnx : ∀ ty, (Instr.next (.pointer (some ⟨w.heap.size, 0, none⟩)) true ty).run Tryd.prog wr = _ := fun ty => Lib.run_next_any_at wr w.heap.size s pos ty hit hp
      have hwd := Lib.width_pos s pos
      have hit2 := Lib.iterAt_heap wr w.heap.size s pos (pos + (Utf8.decode s pos).2) hit
      have hbw2 := Lib.below_iterAt hbw (k := w.heap.size) (Nat.le_refl _) s (pos + (Utf8.decode s pos).2)
      have hst : Hid (sg (s.data.toList.drop pos) = _) := hid (sg_at s pos hp)
      have hfi : (!decide ((0:Int) < (pos : Int))) = decide (pos = 0) := by rw [Bool.eq_iff_iff]; simp
      have cb := bare_w (Utf8.decode s pos).1 (pos : Int) (wr.iterAt w.heap.size s (pos + (Utf8.decode s pos).2))
      rw [hfi] at cb
      cases hbb : bareB (Utf8.decode s pos).1 (decide (pos = 0)) with
      | true =>
        rw [hbb] at cb
        have hlt := (bare_seen _ _ hbb).2.2
        have hw1 : Hid ((Utf8.decode s pos).2 = 1) := hid (width1 s pos hp hlt)
        have hH2 : Hid (pos + 1 + bareLen false (sg (s.data.toList.drop (pos + 1))) = bareLen true (sg s.data.toList)) := hid (by
          have h1 := hH.out
          rw [hst.out, bareLen, if_pos hbb, hw1.out] at h1
          omega)
        by_cases h5 : pos = 255
        · have h5z : ((pos : Int) == 255) = true := by rw [h5]; rfl
          have hRes : Hid (Z = (3, [], 0)) := hid (by rw [hZR.out, if_pos (by have := hH2.out; omega)])
          clear h5
          go_wp2_with fail
          refine cb.mono ?_
          rintro e w1 ⟨rfl, rfl⟩
          go_wp2
          refine bodyPost_ret (v := val3 (3, [], 0)) ?_ rfl ⟨?_, hbw2⟩
          · simp [results, Tryd.results26, go_sem, val3]
          · rw [hRes.out]
        · have h5z : ((pos : Int) == 255) = false := by simp; omega
          go_wp2_with fail
          refine cb.mono ?_
          rintro e w1 ⟨rfl, rfl⟩
          go_wp2
          go_roundw
          case rel =>
            have hd : decide (pos + 1 = 0) = false := by simp
            refine ⟨pos + 1, by go_num, ?_, hbw2, by omega, by omega, hid (by rw [hd]; exact hH2.out)⟩
            rw [← hw1.out]; exact hit2
          case measure =>
            simp only [World.iterPos, hit2, hit]
            omega
      | false =>
        rw [hbb] at cb
        have hn : bareLen true (sg s.data.toList) = pos := by
          have h1 := hH.out
          rw [hst.out, bareLen, if_neg (by simp [hbb])] at h1
          omega
        go_wp2_with fail
        refine cb.mono ?_
        rintro e w1 ⟨rfl, rfl⟩
        (
        have hbl : bareLen true (sg s.data.toList) = pos := hn
        by_cases h0 : pos = 0
        · have h0z : ((pos : Int) == 0) = true := by rw [h0]; rfl
          have hRes : Hid (Z = (4, [], 0)) := hid (by rw [hZR.out, hbl, if_neg (by omega), if_pos h0])
          clear h0 hbl hn
          go_wp2
          refine bodyPost_ret (v := val3 (4, [], 0)) ?_ rfl ⟨?_, hbw2⟩
          · simp [results, Tryd.results26, go_sem, val3]
          · rw [hRes.out]
        · have h0z : ((pos : Int) == 0) = false := by simp; omega
          have hRes : Hid (Z = (0, s.data.toList.take pos, pos)) := hid (by rw [hZR.out, hbl, if_neg (by omega), if_neg h0])
          have hext : (⟨(s.data.toList.take pos).toArray⟩ : ByteArray) = s.extract 0 pos := by rw [← head_list, bytes_eq']
          clear hbl hn
          have hpz : (pos : Int) ≤ (s.size : Int) := by omega
          go_wp2_with fail
          refine (clone_w (s.extract 0 pos) _ (by have : (s.extract 0 pos).data.toList.length ≤ s.size := by rw [head_list, List.length_take]; exact Nat.le_trans (Nat.min_le_right _ _) (Nat.le_refl _)
                                                  have e : (s.extract 0 pos).data.toList.length = (s.extract 0 pos).size := rfl
                                                  omega)).mono ?_
          rintro e w9 ⟨rfl, b9⟩
          go_wp2
          refine bodyPost_ret (v := val3 (0, s.data.toList.take pos, pos)) ?_ rfl ⟨?_, (hbw2).trans (below_le b9 (hbw2).size)⟩
          · simp [results, Tryd.results26, go_sem, val3, hext]
          · rw [hRes.out])
    · have hnx : ∀ ty, (Instr.next (.pointer (some ⟨w.heap.size, 0, none⟩)) true ty).run Tryd.prog wr = _ := fun ty => Lib.run_next_end_at wr w.heap.size s pos ty hit hp
      have hn : bareLen true (sg s.data.toList) = pos := by
          have h1 := hH.out
          rw [sg_end s pos hp] at h1
          simp only [bareLen] at h1
          omega
      (
        have hbl : bareLen true (sg s.data.toList) = pos := hn
        by_cases h0 : pos = 0
        · have h0z : ((pos : Int) == 0) = true := by rw [h0]; rfl
          have hRes : Hid (Z = (4, [], 0)) := hid (by rw [hZR.out, hbl, if_neg (by omega), if_pos h0])
          clear h0 hbl hn
          go_wp2
          refine bodyPost_ret (v := val3 (4, [], 0)) ?_ rfl ⟨?_, hbw⟩
          · simp [results, Tryd.results26, go_sem, val3]
          · rw [hRes.out]
        · have h0z : ((pos : Int) == 0) = false := by simp; omega
          have hRes : Hid (Z = (0, s.data.toList.take pos, pos)) := hid (by rw [hZR.out, hbl, if_neg (by omega), if_neg h0])
          have hext : (⟨(s.data.toList.take pos).toArray⟩ : ByteArray) = s.extract 0 pos := by rw [← head_list, bytes_eq']
          clear hbl hn
          have hpz : (pos : Int) ≤ (s.size : Int) := by omega
          go_wp2_with fail
          refine (clone_w (s.extract 0 pos) _ (by have : (s.extract 0 pos).data.toList.length ≤ s.size := by rw [head_list, List.length_take]; exact Nat.le_trans (Nat.min_le_right _ _) (Nat.le_refl _)
                                                  have e : (s.extract 0 pos).data.toList.length = (s.extract 0 pos).size := rfl
                                                  omega)).mono ?_
          rintro e w9 ⟨rfl, b9⟩
          go_wp2
          refine bodyPost_ret (v := val3 (0, s.data.toList.take pos, pos)) ?_ rfl ⟨?_, (hbw).trans (below_le b9 (hbw).size)⟩
          · simp [results, Tryd.results26, go_sem, val3, hext]
          · rw [hRes.out])

set_option maxHeartbeats 1000000 in
theorem unquote_w (s : ByteArray) (w : World) (hs : s.size ≤ 1000000) (hT : Tabs w) :
    Calls Tryd.prog 10 #[.string s] w fun e w' => e = .returned (val3 (unqQ s.data.toList)) ∧ Below w.heap.size w w' := by
  obtain ⟨Z, hZ⟩ : ∃ Z, unqQ s.data.toList = Z := ⟨_, rfl⟩
  rw [hZ]
  unfold unqQ at hZ
  cases hv : Lib.validD s.data.toList with
  | false =>
    rw [hv, if_neg (by simp)] at hZ
    go_enter Tryd.func10, Tryd.ntmps10
    go_wp2_with fail
    refine (valid_w s _ (by omega) hT.1).mono ?_
    rintro e w1 ⟨rfl, b1⟩
    go_wp2
    refine bodyPost_ret (v := val3 (4, [], 0)) ?_ rfl ⟨?_, b1⟩
    · simp [results, Tryd.results10, go_sem, val3]
    · rw [← hZ]
  | true =>
    rw [hv, if_pos rfl] at hZ
    cases hp : Lib.hasPrefix s.data.toList [39] with
    | true =>
      rw [hp, if_pos rfl] at hZ
      obtain ⟨t, ht⟩ : ∃ t, s.data.toList = 39 :: t := by
        unfold Lib.hasPrefix at hp
        cases hl : s.data.toList with
        | nil => rw [hl] at hp; simp at hp
        | cons x t =>
          rw [hl] at hp
          simp at hp
          exact ⟨t, by rw [hp]⟩
      have h1 : 1 ≤ s.size := by
        have e : s.data.toList.length = s.size := rfl
        rw [← e, ht]; simp
      have hvt : Lib.validD (s.data.toList.drop 1) = true := by
        rw [ht] at hv ⊢
        rw [Lib.validD_cons 39 t (by decide)] at hv
        simpa using hv
      have cq := readQuoted_w s
      rw [show s.data.toList.length = s.size from rfl] at hZ
      rw [hZ] at cq
      clear ht hZ
      go_enter Tryd.func10, Tryd.ntmps10
      go_wp2_with fail
      refine (valid_w s _ (by omega) hT.1).mono ?_
      rintro e w1 ⟨rfl, b1⟩
      go_wp2_with fail
      refine (hasPrefix_w s ⟨#[39]⟩ _).mono ?_
      rintro e w2 ⟨rfl, rfl⟩
      go_wp2_with fail
      refine (cq _ h1 hs hvt).mono ?_
      rintro e w3 ⟨rfl, b3⟩
      unfold val3
      go_wp2
      refine bodyPost_ret (v := val3 Z) ?_ rfl ⟨rfl, b1.trans (below_le b3 b1.size)⟩
      simp [results, Tryd.results10, go_sem, val3]
    | false =>
      rw [hp, if_neg (by simp)] at hZ
      have cq := readBare_w s
      rw [hZ] at cq
      go_enter Tryd.func10, Tryd.ntmps10
      go_wp2_with fail
      refine (valid_w s _ (by omega) hT.1).mono ?_
      rintro e w1 ⟨rfl, b1⟩
      go_wp2_with fail
      refine (hasPrefix_w s ⟨#[39]⟩ _).mono ?_
      rintro e w2 ⟨rfl, rfl⟩
      go_wp2_with fail
      refine (cq _ hs).mono ?_
      rintro e w3 ⟨rfl, b3⟩
      unfold val3
      go_wp2
      refine bodyPost_ret (v := val3 Z) ?_ rfl ⟨rfl, b1.trans (below_le b3 b1.size)⟩
      simp [results, Tryd.results10, go_sem, val3]
end Go.Proofs.YtppfgcbigohkkaaDoor
