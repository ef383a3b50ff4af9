/- Texts of mine, one behind the other: RunesUnquote, TextRd6, TextRd7, TextRd8, TextRd9, TextRdA. -/
import Derived.Test.YtlojfmlaookpmaaGreatDoorSqL
import Derived.Test.YtlojfmlaookpmaaGreatDoorSqK
import Derived.Test.YtlojfmlaookpmaaGreatDoorSqH
import Derived.Test.YtlojfmlaookpmaaGreatDoorSqJ
import Derived.Test.YtlojfmlaookpmaaGreatDoorSqI
set_option linter.unusedSimpArgs false
set_option linter.unusedVariables false
set_option maxRecDepth 2000
namespace Go.Proofs.YtlojfmlaookpmaaGreatDoor
open Go.ChangeShapes Go.WideShapes Go.ChangeAt Go.RowKit Go.Shelf
def bareLen : Bool → List Nat → Nat
 | _, [] => 0
 | f, r :: t => if bareB r f then 1 + bareLen false t else 0
def bareQ (l : List UInt8) : Nat × List UInt8 × Nat :=
 if 255 < bareLen true (sg l) then (3, [], 0) else if bareLen true (sg l) = 0 then (4, [], 0) else (0, l.take (bareLen true (sg l)), bareLen true (sg l))
def quotQ (n : Nat) (t : List Nat) : Nat × List UInt8 × Nat :=
 if (runQ 255 0 [] 0 0 t).1 = 0 then (0, en (runQ 255 0 [] 0 0 t).2.1, n - (en (runQ 255 0 [] 0 0 t).2.2).length) else ((runQ 255 0 [] 0 0 t).1, [], 0)
def unqQ (l : List UInt8) : Nat × List UInt8 × Nat :=
 if Lib.validD l then (if Lib.hasPrefix l [39] then quotQ l.length (sg (l.drop 1)) else bareQ l) else (4, [], 0)
def val3 (q : Nat × List UInt8 × Nat) : Value := .tuple #[.string ⟨q.2.1.toArray⟩, .int .i64 (q.2.2 : Int), .int .i64 (q.1 : Int)]
theorem tail_list (s : ByteArray) : (s.extract 1 s.size).data.toList = s.data.toList.drop 1 := by
 rw [ByteArray.data_extract, Array.toList_extract, List.extract_eq_take_drop]
 rw [List.take_of_length_le]
 rw [List.length_drop]
 exact Nat.le_refl _
set_option maxHeartbeats 4000000 in
theorem readQuoted_w (s : ByteArray) (w : World) (h1 : 1 ≤ s.size) (hs : s.size ≤ 1000000) (hv : Lib.validD (s.data.toList.drop 1) = true) :
   Calls Tryz.prog 121 #[.string s] w fun e w' => e = .returned (val3 (quotQ s.size (sg (s.data.toList.drop 1)))) ∧ Below w.heap.size w w' := by
 obtain ⟨R, hR⟩ : ∃ R, runQ 255 0 [] 0 0 (sg (s.data.toList.drop 1)) = R := ⟨_, rfl⟩
 obtain ⟨Z, hZ⟩ : ∃ Z, quotQ s.size (sg (s.data.toList.drop 1)) = Z := ⟨_, rfl⟩
 rw [hZ]
 have hZR : Hid (Z = if R.1 = 0 then (0, en R.2.1, s.size - (en R.2.2).length) else (R.1, [], 0)) := hid (by rw [← hZ]; unfold quotQ; rw [hR])
 clear hZ
 have h1z : (1 : Int) ≤ (s.size : Int) := by omega
 obtain ⟨X, hX⟩ : ∃ X, s.extract 1 s.size = X := ⟨_, rfl⟩
 have xX : X.data.toList = s.data.toList.drop 1 := by rw [← hX]; exact tail_list s
 have zX : X.size + 1 = s.size := by
   have : X.data.toList.length = s.size - 1 := by rw [xX, List.length_drop]; rfl
   have e : X.data.toList.length = X.size := rfl
   omega
 rw [← xX] at hR hv
 clear xX
 go_enter Tryz.func121, Tryz.ntmps121
 go_wp2
 go_loopw [] (fun wr => ∃ (pos part num dig : Nat) (out : List Nat), Qd w.heap.size w.heap.size part out num dig wr ∧ wr.heap[w.heap.size + 1]? = some (.stringIter X pos) ∧ Below w.heap.size w wr ∧ part ≤ 2 ∧ out.length ≤ 255 ∧ num < 16 ^ dig ∧ dig ≤ 6 ∧ pos ≤ X.size ∧ Hid (Lib.validD (X.data.toList.drop pos) = true) ∧ Hid (runQ 255 part out num dig (sg (X.data.toList.drop pos)) = R)) (fun wr => X.size - wr.iterPos (w.heap.size + 1))
 case atStart =>
   refine ⟨0, 0, 0, 0, [], ?_, ?_, ?_, by omega, by simp, by simp, by omega, by omega, hid (by simpa using hv), hid (by simpa using hR)⟩
   · have hf : Bld 167 w.heap.size w.heap.size [.int .i64 0] [.int .i64 0, .int .i32 0, .int .i64 0] [] (w.alloc (.cells #[.int .i64 0, .pointer none, .slice none 0 0, .int .i64 0, .int .i32 0, .int .i64 0] 167)) :=
       ⟨Nat.le_refl _, by decide, _, _, Or.inl rfl, Go.heap_alloc_new w _, World.ownsRowF_nil _ _ _ _, fun _ => rfl⟩
     exact hf.alloc _
   · have := World.iter_heap (w.alloc (.cells #[.int .i64 0, .pointer none, .slice none 0 0, .int .i64 0, .int .i32 0, .int .i64 0] 167)) X 0
     simpa using this
   · exact ((Below.refl _ w).alloc (Nat.le_refl _) _).alloc (by simp) _
 case round =>
   obtain ⟨pos, part, num, dig, out, hI, hit, hbw, hpart, hout, hnum, hdig, hpX, hvv, hH⟩ := hrel
   clear hv
   have hszr : w.heap.size + 1 < wr.heap.size := lt_of_heap hit
   by_cases hp : pos < X.size
   · have hnx : ∀ ty, (Instr.next (.pointer (some ⟨w.heap.size + 1, 0, none⟩)) true ty).run Tryz.prog wr = _ := fun ty => Lib.run_next_any_at wr (w.heap.size + 1) X pos ty hit hp
     have hwd := Lib.width_pos X pos
     have hrl := Lib.rune_le X pos
     have hA := valid_at X pos hp hvv.out
     have hst : Hid (sg (X.data.toList.drop pos) = _) := hid (sg_at X pos hp)
     obtain ⟨r, hr⟩ : ∃ r, (Utf8.decode X pos).1 = r := ⟨_, rfl⟩
     rw [hr] at hnx hrl
     have hit2 := Lib.iterAt_heap wr (w.heap.size + 1) X pos (pos + (Utf8.decode X pos).2) hit
     have hbw2 := Lib.below_iterAt hbw (k := w.heap.size + 1) (by omega) X (pos + (Utf8.decode X pos).2)
     have hI2 := Bld.iterAt hI hit (pos + (Utf8.decode X pos).2)
     have hsz2 : w.heap.size ≤ (wr.iterAt (w.heap.size + 1) X (pos + (Utf8.decode X pos).2)).heap.size := by rw [Lib.iterAt_size]; omega
     have c0 := Bld.cell hI2 0 _ (fun _ _ => rfl)
     by_cases hend : part = 0 ∧ r = 39
     · obtain ⟨rfl, h39⟩ := hend
       have a1 : ((r : Int) == 39) = true := by rw [h39]; rfl
       have hRes : Hid (R = (0, out, sg (X.data.toList.drop (pos + (Utf8.decode X pos).2)))) := hid (by
         rw [← hH.out, hst.out, hr, runQ, if_pos ⟨rfl, h39⟩])
       have hw1 : (Utf8.decode X pos).2 = 1 := by rw [← hA.2.1, hr, h39]; rfl
       have hlen : (en (sg (X.data.toList.drop (pos + (Utf8.decode X pos).2)))).length = X.size - (pos + 1) := by
         rw [en_of_valid hA.1, List.length_drop, hw1]; rfl
       clear h39 hw1
       go_wp2_with fail
       refine (string_w _ w.heap.size w.heap.size [.int .i64 ((0 : Nat) : Int)] [.int .i64 (out.length : Int), .int .i32 (num : Int), .int .i64 (dig : Int)] (en out) _ hI2).mono ?_
       rintro e w2 ⟨rfl, b2⟩
       go_wp2
       refine bodyPost_ret (v := val3 (0, en out, pos + 2)) ?_ rfl ⟨?_, hbw2.trans b2⟩
       · simp [results, Tryz.results121, go_sem, val3]
         try omega
       · rw [hZR.out, hRes.out]
         simp only [if_true]
         rw [hlen]
         have : s.size - (X.size - (pos + 1)) = pos + 2 := by omega
         rw [this]
     · have hne : ¬ (part = 0 ∧ r = 39) := hend
       have ht : Hid (R = if (takeQ 255 part out num dig r).1 = 0 then runQ 255 (takeQ 255 part out num dig r).2.1 (takeQ 255 part out num dig r).2.2.1 (takeQ 255 part out num dig r).2.2.2.1 (takeQ 255 part out num dig r).2.2.2.2 (sg (X.data.toList.drop (pos + (Utf8.decode X pos).2))) else ((takeQ 255 part out num dig r).1, [], [])) := hid (by
         rw [← hH.out, hst.out, hr, runQ, if_neg hne])
       have ct := take_w w.heap.size w.heap.size part out num dig r hrl _ hI2 hpart hout hsz2 hnum hdig
       have hinv := takeQ_inv part out num dig r hout hnum hdig
       have htest : (((part : Int) == 0) = false) ∨ (((part : Int) == 0) = true ∧ ((r : Int) == 39) = false) := by
         by_cases h0 : part = 0
         · right
           refine ⟨by simp [h0], ?_⟩
           have : ¬ r = 39 := fun e => hne ⟨h0, e⟩
           simp; omega
         · left; simp [h0]
       generalize takeQ 255 part out num dig r = T at *
       obtain ⟨te, tp, tout, tn, td⟩ := T
       simp only [] at ct hinv ht
       by_cases hte : te = 0
       · subst hte
         obtain ⟨i1, i2, i3, i4⟩ := hinv rfl
         rcases htest with t1 | ⟨t1, t2⟩
         all_goals
           go_wp2_with fail
           refine ct.mono ?_
           rintro e w2 ⟨rfl, q2, b2, k2⟩
           have hq := q2 rfl
           have hit3 := k2.iter hit2 (by omega)
           go_wp2
           go_roundw
           case rel =>
             refine ⟨pos + (Utf8.decode X pos).2, tp, tn, td, tout, hq, hit3, hbw2.trans b2, i1, i2, i3, i4, hA.2.2, hid hA.1, hid ?_⟩
             have := ht.out
             simp only [if_true] at this
             exact this.symm
           case measure =>
             simp only [World.iterPos, hit3, hit]
             omega
       · have htz : ((te : Int) == 0) = false := by simp; omega
         have hRes : Hid (R = (te, [], [])) := hid (by rw [ht.out, if_neg hte])
         rcases htest with t1 | ⟨t1, t2⟩
         all_goals
           go_wp2_with fail
           refine ct.mono ?_
           rintro e w2 ⟨rfl, q2, b2, k2⟩
           go_wp2
           refine bodyPost_ret (v := val3 (te, [], 0)) ?_ rfl ⟨?_, hbw2.trans b2⟩
           · simp [results, Tryz.results121, go_sem, val3]
           · rw [hZR.out, hRes.out]; simp only []; rw [if_neg hte]
   · have hnx : ∀ ty, (Instr.next (.pointer (some ⟨w.heap.size + 1, 0, none⟩)) true ty).run Tryz.prog wr = _ := fun ty => Lib.run_next_end_at wr (w.heap.size + 1) X pos ty hit hp
     have hRes : Hid (R = (2, [], [])) := hid (by
       rw [← hH.out, sg_end X pos hp]
       rfl)
     go_wp2
     refine bodyPost_ret (v := val3 (2, [], 0)) ?_ rfl ⟨?_, hbw⟩
     · simp [results, Tryz.results121, go_sem, val3]
     · rw [hZR.out, hRes.out]; rfl
theorem width1 (s : ByteArray) (pos : Nat) (h : pos < s.size) (hr : (Utf8.decode s pos).1 < 128) : (Utf8.decode s pos).2 = 1 := by
 by_cases ha : (s[pos]'h).toNat < 128
 · rw [decode_ascii s pos h ha]
 · have := (decode_high s pos h (by omega)).1
   omega
theorem head_list (s : ByteArray) (n : Nat) : (s.extract 0 n).data.toList = s.data.toList.take n := by
 rw [ByteArray.data_extract, Array.toList_extract, List.extract_eq_take_drop]; simp
theorem bytes_eq' (s : ByteArray) : (⟨s.data.toList.toArray⟩ : ByteArray) = s := by cases s; simp
set_option maxHeartbeats 4000000 in
theorem readBare_w (s : ByteArray) (w : World) (hs : s.size ≤ 1000000) :
   Calls Tryz.prog 122 #[.string s] w fun e w' => e = .returned (val3 (bareQ s.data.toList)) ∧ Below w.heap.size w w' := by
 obtain ⟨Z, hZ⟩ : ∃ Z, bareQ s.data.toList = Z := ⟨_, rfl⟩
 rw [hZ]
 have hZR : Hid (Z = if 255 < bareLen true (sg s.data.toList) then (3, [], 0) else if bareLen true (sg s.data.toList) = 0 then (4, [], 0) else (0, s.data.toList.take (bareLen true (sg s.data.toList)), bareLen true (sg s.data.toList))) := hid (by rw [← hZ]; rfl)
 clear hZ
 go_enter Tryz.func122, Tryz.ntmps122
 go_wp2
 go_loopw [5] (fun n wr => ∃ (pos : Nat), n = .int .i64 (pos : Int) ∧ wr.heap[w.heap.size]? = some (.stringIter s pos) ∧ Below w.heap.size w wr ∧ pos ≤ 255 ∧ pos ≤ s.size ∧ Hid (pos + bareLen (decide (pos = 0)) (sg (s.data.toList.drop pos)) = bareLen true (sg s.data.toList))) (fun _ wr => s.size - wr.iterPos w.heap.size)
 case atStart => exact ⟨0, rfl, (iter_fresh (Below.refl _ w) s).1, (iter_fresh (Below.refl _ w) s).2, by omega, by omega, hid (by simp)⟩
 case round =>
   obtain ⟨pos, rfl, hit, hbw, hp5, hps, hH⟩ := hrel
   by_cases hp : pos < s.size
   · have hnx : ∀ ty, (Instr.next (.pointer (some ⟨w.heap.size, 0, none⟩)) true ty).run Tryz.prog wr = _ := fun ty => Lib.run_next_any_at wr w.heap.size s pos ty hit hp
     have hwd := Lib.width_pos s pos
     have hit2 := Lib.iterAt_heap wr w.heap.size s pos (pos + (Utf8.decode s pos).2) hit
     have hbw2 := Lib.below_iterAt hbw (k := w.heap.size) (Nat.le_refl _) s (pos + (Utf8.decode s pos).2)
     have hst : Hid (sg (s.data.toList.drop pos) = _) := hid (sg_at s pos hp)
     have hfi : (!decide ((0:Int) < (pos : Int))) = decide (pos = 0) := by rw [Bool.eq_iff_iff]; simp
     have cb := bare_w (Utf8.decode s pos).1 (pos : Int) (wr.iterAt w.heap.size s (pos + (Utf8.decode s pos).2))
     rw [hfi] at cb
     cases hbb : bareB (Utf8.decode s pos).1 (decide (pos = 0)) with
     | true =>
       rw [hbb] at cb
       have hlt := (bare_seen _ _ hbb).2.2
       have hw1 : Hid ((Utf8.decode s pos).2 = 1) := hid (width1 s pos hp hlt)
       have hH2 : Hid (pos + 1 + bareLen false (sg (s.data.toList.drop (pos + 1))) = bareLen true (sg s.data.toList)) := hid (by
         have h1 := hH.out
         rw [hst.out, bareLen, if_pos hbb, hw1.out] at h1
         omega)
       by_cases h5 : pos = 255
       · have h5z : ((pos : Int) == 255) = true := by rw [h5]; rfl
         have hRes : Hid (Z = (3, [], 0)) := hid (by rw [hZR.out, if_pos (by have := hH2.out; omega)])
         clear h5
         go_wp2_with fail
         refine cb.mono ?_
         rintro e w1 ⟨rfl, rfl⟩
         go_wp2
         refine bodyPost_ret (v := val3 (3, [], 0)) ?_ rfl ⟨?_, hbw2⟩
         · simp [results, Tryz.results122, go_sem, val3]
         · rw [hRes.out]
       · have h5z : ((pos : Int) == 255) = false := by simp; omega
         go_wp2_with fail
         refine cb.mono ?_
         rintro e w1 ⟨rfl, rfl⟩
         go_wp2
         go_roundw
         case rel =>
           have hd : decide (pos + 1 = 0) = false := by simp
           refine ⟨pos + 1, by go_num, ?_, hbw2, by omega, by omega, hid (by rw [hd]; exact hH2.out)⟩
           rw [← hw1.out]; exact hit2
         case measure =>
           simp only [World.iterPos, hit2, hit]
           omega
     | false =>
       rw [hbb] at cb
       have hn : bareLen true (sg s.data.toList) = pos := by
         have h1 := hH.out
         rw [hst.out, bareLen, if_neg (by simp [hbb])] at h1
         omega
       go_wp2_with fail
       refine cb.mono ?_
       rintro e w1 ⟨rfl, rfl⟩
       (
               have hbl : bareLen true (sg s.data.toList) = pos := hn
               by_cases h0 : pos = 0
               · have h0z : ((pos : Int) == 0) = true := by rw [h0]; rfl
                 have hRes : Hid (Z = (4, [], 0)) := hid (by rw [hZR.out, hbl, if_neg (by omega), if_pos h0])
                 clear h0 hbl hn
                 go_wp2
                 refine bodyPost_ret (v := val3 (4, [], 0)) ?_ rfl ⟨?_, hbw2⟩
                 · simp [results, Tryz.results122, go_sem, val3]
                 · rw [hRes.out]
               · have h0z : ((pos : Int) == 0) = false := by simp; omega
                 have hRes : Hid (Z = (0, s.data.toList.take pos, pos)) := hid (by rw [hZR.out, hbl, if_neg (by omega), if_neg h0])
                 have hext : (⟨(s.data.toList.take pos).toArray⟩ : ByteArray) = s.extract 0 pos := by rw [← head_list, bytes_eq']
                 clear hbl hn
                 have hpz : (pos : Int) ≤ (s.size : Int) := by omega
                 go_wp2_with fail
                 refine (sclone_w (s.extract 0 pos) _ (by
                             have : (s.extract 0 pos).data.toList.length ≤ s.size := by rw [head_list, List.length_take]; exact Nat.le_trans (Nat.min_le_right _ _) (Nat.le_refl _)
                             have e : (s.extract 0 pos).data.toList.length = (s.extract 0 pos).size := rfl
                             omega)).mono ?_
                 rintro e w9 ⟨rfl, b9⟩
                 go_wp2
                 refine bodyPost_ret (v := val3 (0, s.data.toList.take pos, pos)) ?_ rfl ⟨?_, (hbw2).trans (below_le b9 (hbw2).size)⟩
                 · simp [results, Tryz.results122, go_sem, val3, hext]
                 · rw [hRes.out])
   · have hnx : ∀ ty, (Instr.next (.pointer (some ⟨w.heap.size, 0, none⟩)) true ty).run Tryz.prog wr = _ := fun ty => Lib.run_next_end_at wr w.heap.size s pos ty hit hp
     have hn : bareLen true (sg s.data.toList) = pos := by
         have h1 := hH.out
         rw [sg_end s pos hp] at h1
         simp only [bareLen] at h1
         omega
     (
             have hbl : bareLen true (sg s.data.toList) = pos := hn
             by_cases h0 : pos = 0
             · have h0z : ((pos : Int) == 0) = true := by rw [h0]; rfl
               have hRes : Hid (Z = (4, [], 0)) := hid (by rw [hZR.out, hbl, if_neg (by omega), if_pos h0])
               clear h0 hbl hn
               go_wp2
               refine bodyPost_ret (v := val3 (4, [], 0)) ?_ rfl ⟨?_, hbw⟩
               · simp [results, Tryz.results122, go_sem, val3]
               · rw [hRes.out]
             · have h0z : ((pos : Int) == 0) = false := by simp; omega
               have hRes : Hid (Z = (0, s.data.toList.take pos, pos)) := hid (by rw [hZR.out, hbl, if_neg (by omega), if_neg h0])
               have hext : (⟨(s.data.toList.take pos).toArray⟩ : ByteArray) = s.extract 0 pos := by rw [← head_list, bytes_eq']
               clear hbl hn
               have hpz : (pos : Int) ≤ (s.size : Int) := by omega
               go_wp2_with fail
               refine (sclone_w (s.extract 0 pos) _ (by
                           have : (s.extract 0 pos).data.toList.length ≤ s.size := by rw [head_list, List.length_take]; exact Nat.le_trans (Nat.min_le_right _ _) (Nat.le_refl _)
                           have e : (s.extract 0 pos).data.toList.length = (s.extract 0 pos).size := rfl
                           omega)).mono ?_
               rintro e w9 ⟨rfl, b9⟩
               go_wp2
               refine bodyPost_ret (v := val3 (0, s.data.toList.take pos, pos)) ?_ rfl ⟨?_, (hbw).trans (below_le b9 (hbw).size)⟩
               · simp [results, Tryz.results122, go_sem, val3, hext]
               · rw [hRes.out])
set_option maxHeartbeats 1000000 in
theorem unquote_w (s : ByteArray) (w : World) (hs : s.size ≤ 1000000) (hT : TabsQ w) :
   Calls Tryz.prog 92 #[.string s] w fun e w' => e = .returned (val3 (unqQ s.data.toList)) ∧ Below w.heap.size w w' := by
 obtain ⟨Z, hZ⟩ : ∃ Z, unqQ s.data.toList = Z := ⟨_, rfl⟩
 rw [hZ]
 unfold unqQ at hZ
 cases hv : Lib.validD s.data.toList with
 | false =>
   rw [hv, if_neg (by simp)] at hZ
   go_enter Tryz.func92, Tryz.ntmps92
   go_wp2_with fail
   refine (valid_w s _ (by omega) hT.1).mono ?_
   rintro e w1 ⟨rfl, b1⟩
   go_wp2
   refine bodyPost_ret (v := val3 (4, [], 0)) ?_ rfl ⟨?_, b1⟩
   · simp [results, Tryz.results92, go_sem, val3]
   · rw [← hZ]
 | true =>
   rw [hv, if_pos rfl] at hZ
   cases hp : Lib.hasPrefix s.data.toList [39] with
   | true =>
     rw [hp, if_pos rfl] at hZ
     obtain ⟨t, ht⟩ : ∃ t, s.data.toList = 39 :: t := by
       unfold Lib.hasPrefix at hp
       cases hl : s.data.toList with
       | nil => rw [hl] at hp; simp at hp
       | cons x t =>
         rw [hl] at hp
         simp at hp
         exact ⟨t, by rw [hp]⟩
     have h1 : 1 ≤ s.size := by
       have e : s.data.toList.length = s.size := rfl
       rw [← e, ht]; simp
     have hvt : Lib.validD (s.data.toList.drop 1) = true := by
       rw [ht] at hv ⊢
       rw [Lib.validD_cons 39 t (by decide)] at hv
       simpa using hv
     have cq := readQuoted_w s
     rw [show s.data.toList.length = s.size from rfl] at hZ
     rw [hZ] at cq
     clear ht hZ
     go_enter Tryz.func92, Tryz.ntmps92
     go_wp2_with fail
     refine (valid_w s _ (by omega) hT.1).mono ?_
     rintro e w1 ⟨rfl, b1⟩
     go_wp2_with fail
     refine (hasPrefix_w s ⟨#[39]⟩ _).mono ?_
     rintro e w2 ⟨rfl, rfl⟩
     go_wp2_with fail
     refine (cq _ h1 hs hvt).mono ?_
     rintro e w3 ⟨rfl, b3⟩
     unfold val3
     go_wp2
     refine bodyPost_ret (v := val3 Z) ?_ rfl ⟨rfl, b1.trans (below_le b3 b1.size)⟩
     simp [results, Tryz.results92, go_sem, val3]
   | false =>
     rw [hp, if_neg (by simp)] at hZ
     have cq := readBare_w s
     rw [hZ] at cq
     go_enter Tryz.func92, Tryz.ntmps92
     go_wp2_with fail
     refine (valid_w s _ (by omega) hT.1).mono ?_
     rintro e w1 ⟨rfl, b1⟩
     go_wp2_with fail
     refine (hasPrefix_w s ⟨#[39]⟩ _).mono ?_
     rintro e w2 ⟨rfl, rfl⟩
     go_wp2_with fail
     refine (cq _ hs).mono ?_
     rintro e w3 ⟨rfl, b3⟩
     unfold val3
     go_wp2
     refine bodyPost_ret (v := val3 Z) ?_ rfl ⟨rfl, b1.trans (below_le b3 b1.size)⟩
     simp [results, Tryz.results92, go_sem, val3]
theorem takeQ_len (L part : Nat) (out : List Nat) (num dig r : Nat) : (takeQ L part out num dig r).1 = 0 → out.length ≤ L → (takeQ L part out num dig r).2.2.1.length ≤ L := by
 intro h hl
 unfold takeQ escQ numQ addQ at *
 repeat' split at h
 all_goals (first | (simp_all; done) | (simp_all; omega))
theorem runQ_len (L : Nat) : ∀ (t : List Nat) (part : Nat) (out : List Nat) (num dig : Nat), out.length ≤ L → (runQ L part out num dig t).2.1.length ≤ L
 | [], _, _, _, _, _ => by simp [runQ]
 | r :: t, part, out, num, dig, hl => by
   unfold runQ
   split
   · exact hl
   · split
     · rename_i h
       exact runQ_len L t _ _ _ _ (takeQ_len L part out num dig r h hl)
     · simp
theorem en_le : ∀ l : List Nat, (en l).length ≤ 4 * l.length
 | [] => by simp [en]
 | r :: l => by
   have h1 := e1_length r
   have h2 := en_le l
   have e : en (r :: l) = e1 r ++ en l := by rw [← en_one r, ← en_append]; rfl
   rw [e, List.length_append, List.length_cons]
   omega
theorem bareLen_le : ∀ (f : Bool) (l : List Nat), bareLen f l ≤ l.length
 | _, [] => by simp [bareLen]
 | f, r :: t => by
   have := bareLen_le false t
   unfold bareLen
   split
   · rw [List.length_cons]; omega
   · omega
theorem unq_sizes (l : List UInt8) (hl : l.length ≤ 5000) : (unqQ l).2.1.length ≤ 5000 ∧ (unqQ l).2.2 ≤ l.length := by
 unfold unqQ
 split
 · split
   · unfold quotQ
     split
     · have h1 := runQ_len 255 (sg (l.drop 1)) 0 [] 0 0 (by simp)
       have h2 := en_le (runQ 255 0 [] 0 0 (sg (l.drop 1))).2.1
       simp only []
       omega
     · simp
   · unfold bareQ
     have h1 := bareLen_le true (sg l)
     have h2 := sg_le l
     split
     · simp
     · split
       · simp
       · simp only [List.length_take]
         omega
 · simp
theorem tl_ne {A Q : ByteArray} (h : A ≠ Q) : (A.toList == Q.toList) = false := by
 rw [ByteArray.toList_eq, ByteArray.toList_eq]
 have : A.data.toList ≠ Q.data.toList := fun e => h (ByteArray.ext (Array.toList_inj.1 e))
 exact beq_eq_false_iff_ne.2 this
def nameL (r : List UInt8) : Option Tm × List UInt8 :=
 if (unqQ (r.take (nearN r))).1 = 0 then
   (if r.take (unqQ (r.take (nearN r))).2.2 = quoteL (unqQ (r.take (nearN r))).2.1 then (some (atomT (bs (unqQ (r.take (nearN r))).2.1)), r.drop (unqQ (r.take (nearN r))).2.2) else (none, r))
 else (none, r)
theorem nearN_le (r : List UInt8) : (r.take (nearN r)).length ≤ 1277 := by
 unfold nearN
 split
 · rw [List.length_take]; omega
 · have := nearGo_le r 1277
   rw [List.length_take]; omega
set_option maxHeartbeats 2000000 in
theorem name_w (g : Nat) (r : List UInt8) (ov : Value) (w : World) (hr : r.length ≤ 1000000) (h : Rdr g r ov w) (h0 : ∀ b, r[0]? = some b → stB b.toNat = true) (hQ : TabsQ w) :
   Calls Tryz.prog 58 #[.pointer (some ⟨g, 0, none⟩)] w fun e w' => ∃ v, e = .returned v ∧ LeafV w.heap.size (nameL r).1 v w' ∧ Rdr g (nameL r).2 ov w' ∧ Kpt (fun b => b = g) w w' := by
 have c1 := near_w g r ov w hr h h0
 have hn := nearN_le r
 have hNr : (r.take (nearN r)).length ≤ r.length := by rw [List.length_take]; omega
 unfold nameL
 generalize r.take (nearN r) = N at *
 have c2 := unquote_w (bs N) w (by rw [bs_size]; omega) hQ
 rw [bs_list] at c2
 have hsz := unq_sizes N (by omega)
 unfold val3 at c2
 obtain ⟨U0, hU⟩ : ∃ U0, unqQ N = U0 := ⟨_, rfl⟩
 obtain ⟨E, X, SZ⟩ := U0
 rw [hU] at c2 hsz
 rw [hU]
 simp only [] at c2 hsz ⊢
 obtain ⟨hX, hS⟩ := hsz
 have hgl := h.lt
 by_cases hE : E = 0
 · subst hE
   rw [if_pos rfl]
   have hH := hid h
   have hex : (bs r).extract 0 SZ = bs (r.take SZ) := ex_take r SZ
   have hex2 : (bs r).extract SZ (bs r).size = bs (r.drop SZ) := ex_drop r SZ
   have hsz := bs_size r
   have hz1 : (SZ : Int) ≤ ((bs r).size : Int) := by omega
   have c3 := fun w' (hb : Below w.heap.size w w') => quote_w (bs X) w' (by rw [bs_size]; omega) (hQ.below hb)
   rw [bs_list] at c3
   have hXl : X.length ≤ 5000 := hX
   obtain ⟨A, hA⟩ : ∃ A, bs (r.take SZ) = A := ⟨_, rfl⟩
   obtain ⟨Q, hQ'⟩ : ∃ Q : ByteArray, ⟨(quoteL X).toArray⟩ = Q := ⟨_, rfl⟩
   obtain ⟨XB, hXB⟩ : ∃ XB, bs X = XB := ⟨_, rfl⟩
   rw [hA] at hex
   rw [hQ', hXB] at c3
   rw [hXB]
   rw [show (⟨X.toArray⟩ : ByteArray) = XB from hXB] at c2
   have hinj : (r.take SZ = quoteL X) ↔ A = Q := by
     rw [← hA, ← hQ']
     constructor
     · intro e; rw [e]; rfl
     · intro e
       have := congrArg (fun b : ByteArray => b.data.toList) e
       simpa [bs] using this
   clear hsz hU hX hS hn h h0 hA hQ'
   have hinH := hid hinj
   clear hinj
   by_cases hAQ : A = Q
   · rw [if_pos (hinH.out.2 hAQ)]
     have hcmp : (A.toList == Q.toList) = true := by rw [hAQ]; simp
     have hAQH := hid hAQ
     clear hAQ
     go_enter Tryz.func58, Tryz.ntmps58
     go_wp2_with fail
     refine c1.mono ?_
     rintro e w1 ⟨rfl, rfl⟩
     go_wp2_with fail
     refine c2.mono ?_
     rintro e w2 ⟨rfl, b2⟩
     obtain ⟨y0, y1, f0, f1⟩ := (hH.out.below b2).cells
     clear c1 c2
     go_upto_region 2 with fail
     go_region_held3 (fun w' => w'.cell? ⟨g, 0, none⟩ = some (.string (bs r))) (first | go_keep) (first | (go_at_call 79; refine (c3 _ ?_).mono ?_; (first | exact b2 | exact b2.drew); rintro e w3 ⟨rfl, b3⟩; have z0 : w3.cell? ⟨g, 0, none⟩ = some (.string (bs r)) := (b3.cell (World.block_lt_of_cell? _ _ y0)).trans y0))
     have b23 : Below w2.heap.size w2 w3 := ((Below.refl _ w2).drew).trans b3
     have bw3 : Below w1.heap.size w1 w3 := b2.trans (below_le b23 b2.size)
     have hR3 := hH.out.below bw3
     obtain ⟨u0, u1, q0, q1⟩ := hR3.cells
     obtain ⟨W4, hW4⟩ : ∃ W4, W4 = w3.setCell ⟨g, 0, none⟩ (.string (bs (r.drop SZ))) := ⟨_, rfl⟩
     have hR4 : Rdr g (r.drop SZ) ov W4 := by rw [hW4]; exact hR3.set0 _
     have hK4 : Kpt (fun b => b = g) w1 W4 := by rw [hW4]; exact (Kpt.of_below bw3).trans (Kpt.of_set (F := fun b => b = g) w3 (p := ⟨g, 0, none⟩) rfl _)
     have c4 := Atom_w XB W4 (by rw [← hXB, bs_size]; omega)
     rw [hW4] at c4
     have hR4H := hid hR4
     have hK4H := hid hK4
     have hW4H := hid hW4
     clear hR3 hR4 hK4 hW4 c3 hXB hAQH hinH
     go_wp2_with fail
     refine c4.mono ?_
     rw [← hW4H.out]
     rintro e w5 ⟨v5, rfl, hT5, b5⟩
     have hz5 := hid hK4H.out.size
     have hTT := hid (TV.mono (Z' := Zw w1.heap.size w5) (fun k hk hz => ⟨Nat.le_trans hz5.out hz.1, hz.2⟩) _ _ hT5)
     obtain ⟨k', neg', od', ld', cd', nm', n', ol', ll', cl', ob', lb', cb', rfl⟩ := hT5.form
     clear c4 hT5
     go_wp2
     go_ret
     exact ⟨_, rfl, ⟨_, rfl, hTT.out⟩, hR4H.out.below b5, hK4H.out.trans (Kpt.of_below b5)⟩
   · rw [if_neg (fun e => hAQ (hinH.out.1 e))]
     have hcmp : (A.toList == Q.toList) = false := tl_ne hAQ
     clear hAQ
     go_enter Tryz.func58, Tryz.ntmps58
     go_wp2_with fail
     refine c1.mono ?_
     rintro e w1 ⟨rfl, rfl⟩
     go_wp2_with fail
     refine c2.mono ?_
     rintro e w2 ⟨rfl, b2⟩
     obtain ⟨y0, y1, f0, f1⟩ := (hH.out.below b2).cells
     clear c1 c2
     go_upto_region 2 with fail
     go_region_held3 (fun w' => w'.cell? ⟨g, 0, none⟩ = some (.string (bs r))) (first | go_keep) (first | (go_at_call 79; refine (c3 _ ?_).mono ?_; (first | exact b2 | exact b2.drew); rintro e w3 ⟨rfl, b3⟩; have z0 : w3.cell? ⟨g, 0, none⟩ = some (.string (bs r)) := (b3.cell (World.block_lt_of_cell? _ _ y0)).trans y0))
     have b23 : Below w2.heap.size w2 w3 := ((Below.refl _ w2).drew).trans b3
     have bw3 : Below w1.heap.size w1 w3 := b2.trans (below_le b23 b2.size)
     have hRR := hid (hH.out.below bw3)
     have hKK := hid (Kpt.of_below (F := fun b => b = g) bw3)
     clear c3
     go_wp2
     go_ret
     exact ⟨_, rfl, rfl, hRR.out, hKK.out⟩
 · have hne : ((E : Int) != 0) = true := by simp [hE]
   have hEH := hid hE
   have hH := hid h
   clear hE hU hX hS hn h h0
   go_enter Tryz.func58, Tryz.ntmps58
   go_wp2_with fail
   refine c1.mono ?_
   rintro e w1 ⟨rfl, rfl⟩
   go_wp2_with fail
   refine c2.mono ?_
   rintro e w2 ⟨rfl, b2⟩
   have hbd : ∀ n, Below w1.heap.size w1 (w2.drewN n) := fun n => b2.trans (below_le (below_drewNv (Below.refl _ _) n) b2.size)
   clear c1 c2
   go_upto_region 2 with fail
   go_quiet (fail)
   all_goals go_wp2
   all_goals go_ret
   all_goals exact ⟨_, rfl, rfl, hH.out.below (hbd _), Kpt.of_below (hbd _)⟩
def binGo : Nat → List UInt8 → List Nat → Option Tm × List UInt8
 | 0, r, _ => (none, r)
 | k + 1, r, acc =>
   if skB 62 r then (if skB 62 (skR 62 r) then (some (binT acc), skR 62 (skR 62 r)) else (none, skR 62 (skR 62 r)))
   else if acc ≠ [] ∧ skB 44 r = false then (none, r)
   else
     if nmB 255 ((if acc = [] then r else skR 44 r).takeWhile digB) then binGo k ((if acc = [] then r else skR 44 r).dropWhile digB) (acc ++ [(nmN 255 ((if acc = [] then r else skR 44 r).takeWhile digB)).toNat])
     else (none, (if acc = [] then r else skR 44 r).dropWhile digB)
theorem skR_no {c : UInt8} {r : List UInt8} (h : skB c r = false) : skR c r = r := by
 unfold skB at h
 unfold skR
 rw [if_neg]
 intro e
 rw [e] at h
 simp at h
theorem skR_le (c : UInt8) (r : List UInt8) : (skR c r).length ≤ r.length := by
 unfold skR
 split
 · simp
 · exact Nat.le_refl _
theorem pE_nil : pE [] ≠ 0 := by decide
theorem nm_pos {m : Int} {r : List UInt8} (h : nmB m (r.takeWhile digB) = true) : (r.dropWhile digB).length < r.length := by
 have e := List.takeWhile_append_dropWhile (p := digB) (l := r)
 have e2 := congrArg List.length e
 rw [List.length_append] at e2
 have : (r.takeWhile digB).length ≠ 0 := by
   intro h0
   rw [List.eq_nil_of_length_eq_zero h0] at h
   unfold nmB at h
   simp only [Bool.and_eq_true, beq_iff_eq] at h
   exact pE_nil h.1.1
 omega
theorem pneg_digs (r : List UInt8) : pneg (r.takeWhile digB) = false := by
 unfold pneg
 cases hr : r.takeWhile digB with
 | nil => rfl
 | cons x t =>
   have hx : digB x = true := by
     have hm : x ∈ r.takeWhile digB := by rw [hr]; simp
     exact List.all_eq_true.1 List.all_takeWhile x hm
   have hne : (45 == x) = false := by
     cases he : (45 == x) with
     | false => rfl
     | true =>
       have : x = 45 := (beq_iff_eq.1 he).symm
       subst this
       exact absurd hx (by decide)
   show List.isPrefixOf [45] (x :: t) = false
   simp [List.isPrefixOf, hne]
theorem nm_range {m : Int} {l : List UInt8} (hl : pneg l = false) (h : nmB m l = true) : 0 ≤ nmN m l ∧ nmN m l ≤ m := by
 unfold nmN
 rw [if_pos h]
 unfold nmB at h
 simp only [Bool.and_eq_true, beq_iff_eq, decide_eq_true_eq] at h
 obtain ⟨⟨h1, h2⟩, h3⟩ := h
 refine ⟨?_, h3⟩
 unfold smlN
 rw [if_pos h2]
 unfold pZ
 rw [if_pos h1, hl]
 simp [sv]
def restLen (g : Nat) (w : World) : Nat :=
 match w.cell? ⟨g, 0, none⟩ with
 | some (.string s) => s.size
 | _ => 0
theorem Rdr.len {g : Nat} {r : List UInt8} {ov : Value} {w : World} (h : Rdr g r ov w) : restLen g w = r.length := by
 unfold restLen
 rw [h.cells.1]
 exact bs_size r
theorem own_lsB {w : World} {B : Nat} {o : Option Addr} {n c : Nat} {b : List Nat} (h : w.ownsRow B 5 1 (.slice o n c) n (bts b)) (hL : Lm 256 b) : LsB (Low w) o b w := by
 refine ⟨?_, hL⟩
 intro j u hu
 have hlt := World.ownsRow.lt h
 have hcs := @World.ownsRow.cells _ _ _ _ _ _ _ h
 have h1 := h.1
 rcases h.2 with ⟨e, h0⟩ | ⟨q, c', cur, e, hq, hc, hn, hm, _⟩
 · have : (bts b).length = 0 := by rw [h1]; omega
   rw [List.eq_nil_of_length_eq_zero this] at hu
   simp at hu
 · injection e with e1 e2 e3
   subst e1
   exact ⟨_, rfl, (hlt q rfl).2, hcs rfl j u hu⟩
theorem Kpt.own {F : Nat → Prop} {w w' : World} {B : Nat} {e : TypeId} {v : Value} {n : Nat} {xs : List Value} (hk : Kpt F w w') (h : w.ownsRow B e 1 v n xs) (hF : ∀ k, B ≤ k → ¬ F k) : w'.ownsRow B e 1 v n xs :=
 own_of h (fun k hk' => hk.block k (World.ownsRow.lt h k hk').2 (hF k (World.ownsRow.lt h k hk').1))
def binL (r : List UInt8) : Option Tm × List UInt8 := binGo (r.length + 1) r []
theorem bin_one (k : Nat) (r : List UInt8) (acc : List Nat) : binGo (k + 1) r acc =
   if skB 62 r then (if skB 62 (skR 62 r) then (some (binT acc), skR 62 (skR 62 r)) else (none, skR 62 (skR 62 r)))
   else if acc ≠ [] ∧ skB 44 r = false then (none, r)
   else
     if nmB 255 ((if acc = [] then r else skR 44 r).takeWhile digB) then binGo k ((if acc = [] then r else skR 44 r).dropWhile digB) (acc ++ [(nmN 255 ((if acc = [] then r else skR 44 r).takeWhile digB)).toNat])
     else (none, (if acc = [] then r else skR 44 r).dropWhile digB) := rfl
theorem Kpt.then_below {F : Nat → Prop} {a b c : World} (h : Kpt F a b) (k : Below a.heap.size b c) : Kpt F a c :=
 ⟨k.os.trans h.os, k.tape.trans h.tape, k.output.trans h.output, Nat.le_trans h.size k.size, fun i hi hn => (k.block i hi).trans (h.block i hi hn)⟩
theorem bts_snoc (l : List Nat) (m : Nat) : bts (l ++ [m]) = bts l ++ [.int .u8 (m : Int)] := by simp [bts]
theorem lm_snoc {l : List Nat} {m : Nat} (h : Lm 256 l) (hm : m < 256) : Lm 256 (l ++ [m]) := by
 intro x hx
 rcases List.mem_append.1 hx with hx | hx
 · exact h x hx
 · simp at hx; omega
set_option maxHeartbeats 4000000 in
theorem bin_w (g : Nat) (r : List UInt8) (ov : Value) (w : World) (hr : r.length ≤ 1000000) (h : Rdr g r ov w) (hg : ∀ w', Kpt (fun b => b = g) w w' → Tabs w') :
   Calls Tryz.prog 52 #[.pointer (some ⟨g, 0, none⟩)] w fun e w' => ∃ v, e = .returned v ∧ LeafV w.heap.size (binL r).1 v w' ∧ Rdr g (binL r).2 ov w' ∧ Kpt (fun b => b = g) w w' := by
 obtain ⟨R, hR⟩ : ∃ R, binL r = R := ⟨_, rfl⟩
 rw [hR]
 have hRH := hid hR
 clear hR
 have hgl := h.lt
 have hH := hid h
 have hgH := hid hg
 clear h hg
 go_enter Tryz.func52, Tryz.ntmps52
 go_wp2_with fail
 go_loopw [3] (fun s wr => ∃ (acc : List Nat) (r1 : List UInt8) (o : Option Addr) (c k : Nat), s = .slice o acc.length c ∧ Hid (wr.ownsRow w.heap.size 5 1 (.slice o acc.length c) acc.length (bts acc)) ∧ Hid (Rdr g r1 ov wr) ∧ Hid (Kpt (fun b => b = g) w wr) ∧ Hid (Lm 256 acc) ∧ acc.length + r1.length ≤ r.length ∧ r1.length ≤ k ∧ Hid (binGo (k + 1) r1 acc = R)) (fun _ wr => restLen g wr)
 case atStart => exact ⟨[], r, none, 0, r.length, rfl, hid (World.ownsRow_nil _ _ _ _), hH, hid (Kpt.refl _ _), hid (Lm.nil _), by simp, Nat.le_refl _, hRH⟩
 case round =>
   obtain ⟨acc, r1, o, c, k, rfl, hown, hRd, hK, hLm, hlen, hk, hB⟩ := hrel
   have c1 := skip_w g r1 ov 62 62 rfl (by decide) wr hRd.out (hgH.out _ hK.out)
   have hBo := hB.out
   rw [bin_one] at hBo
   have hBH := hid hBo
   clear hBo hB
   obtain ⟨s1, hs1⟩ : ∃ s1, skB 62 r1 = s1 := ⟨_, rfl⟩
   obtain ⟨q1, hq1⟩ : ∃ q1, skR 62 r1 = q1 := ⟨_, rfl⟩
   rw [hs1, hq1] at c1
   have hs1H := hid hs1
   have hq1H := hid hq1
   clear hs1 hq1
   cases s1 with
   | true =>
     go_wp2_with fail
     refine c1.mono ?_
     rintro e w1 ⟨rfl, h1, k1⟩
     have kk1 := hid (hK.out.trans k1)
     have own1 := hid (k1.own hown.out (fun j hj e => by omega))
     have h1H := hid h1
     have c2 := skip_w g q1 ov 62 62 rfl (by decide) w1 h1 (hgH.out _ kk1.out)
     obtain ⟨s2, hs2⟩ : ∃ s2, skB 62 q1 = s2 := ⟨_, rfl⟩
     obtain ⟨q2, hq2⟩ : ∃ q2, skR 62 q1 = q2 := ⟨_, rfl⟩
     have hRq : Hid ((if s2 then some (binT acc) else none, q2) = R) := hid (by
       have := hBH.out
       rw [hs1H.out, hq1H.out, hs2, hq2] at this
       rw [← this]
       cases s2 <;> rfl)
     rw [hs2, hq2] at c2
     clear hs2 hq2 c1 h1 k1
     go_wp2_with fail
     refine c2.mono ?_
     rintro e w2 ⟨rfl, h2, k2⟩
     have kk2 := hid (kk1.out.trans k2)
     have own2 := hid (k2.own own1.out (fun j hj e => by omega))
     have h2H := hid h2
     clear c2 h2 k2
     cases s2 with
     | false =>
       go_wp2
       go_ret
       rw [← hRq.out]
       exact ⟨_, rfl, rfl, h2H.out, kk2.out⟩
     | true =>
       have hcap : acc.length ≤ c := by
         rcases own2.out.2 with ⟨e, h0⟩ | ⟨q, c', cur, e, hq, hc, hn, hm, _⟩
         · omega
         · injection e with e1 e2 e3
           omega
       have c3 := Bin_w acc o c w2 hcap (by omega) (own_lsB own2.out hLm.out)
       go_wp2_with fail
       refine c3.mono ?_
       rintro e w3 ⟨v3, rfl, hT3, b3⟩
       have hz2 := hid kk2.out.size
       have hTT := hid (TV.mono (Z' := Zw w.heap.size w3) (fun k hk hz => ⟨Nat.le_trans hz2.out hz.1, hz.2⟩) _ _ hT3)
       obtain ⟨k', neg', od', ld', cd', nm', n', ol', ll', cl', ob', lb', cb', rfl⟩ := hT3.form
       clear c3 hT3
       go_wp2
       go_ret
       rw [← hRq.out]
       exact ⟨_, rfl, ⟨_, rfl, hTT.out⟩, h2H.out.below b3, kk2.out.trans (Kpt.of_below b3)⟩
   | false =>
     have hq : q1 = r1 := by rw [← hq1H.out]; exact skR_no hs1H.out
     subst hq
     have hBf : Hid ((if acc ≠ [] ∧ skB 44 q1 = false then (none, q1)
   else
     if nmB 255 ((if acc = [] then q1 else skR 44 q1).takeWhile digB) then binGo k ((if acc = [] then q1 else skR 44 q1).dropWhile digB) (acc ++ [(nmN 255 ((if acc = [] then q1 else skR 44 q1).takeWhile digB)).toNat])
     else (none, (if acc = [] then q1 else skR 44 q1).dropWhile digB)) = R) := hid (by
       have := hBH.out
       rw [hs1H.out, if_neg (by simp)] at this
       exact this)
     clear hBH
     go_wp2_with fail
     refine c1.mono ?_
     rintro e w1 ⟨rfl, h1, k1⟩
     have kk1 := hid (hK.out.trans k1)
     have own1 := hid (k1.own hown.out (fun j hj e => by omega))
     have h1H := hid h1
     by_cases ha : acc = []
     · have hal : ¬ (0 : Int) < (acc.length : Int) := by rw [ha]; simp
       have haH := hid ha
       clear ha
       obtain ⟨wX, hwX⟩ : ∃ wX, wX = w1 := ⟨_, rfl⟩
       obtain ⟨rX, hrX⟩ : ∃ rX, rX = q1 := ⟨_, rfl⟩
       have hX : Hid (Rdr g rX ov wX) := hid (by rw [hwX, hrX]; exact h1)
       have kX : Hid (Kpt (fun b => b = g) w wX) := hid (by rw [hwX]; exact kk1.out)
       have ownX : Hid (wX.ownsRow w.heap.size 5 1 (.slice o acc.length c) acc.length (bts acc)) := hid (by rw [hwX]; exact own1.out)
       have hBX : Hid ((if nmB 255 (rX.takeWhile digB) then binGo k (rX.dropWhile digB) (acc ++ [(nmN 255 (rX.takeWhile digB)).toNat]) else (none, rX.dropWhile digB)) = R) := hid (by
         have := hBf.out
         rw [if_neg (fun h => h.1 haH.out), if_pos haH.out] at this
         rw [hrX]
         exact this)
       have hlX : rX.length ≤ q1.length := by rw [hrX]; exact Nat.le_refl _
       clear hrX c1 h1 k1
       subst hwX
       have c3 := rdnum_w g rX ov 255 wX (by omega) hX.out
       obtain ⟨B, hBe⟩ : ∃ B, nmB 255 (rX.takeWhile digB) = B := ⟨_, rfl⟩
       obtain ⟨N, hNe⟩ : ∃ N, nmN 255 (rX.takeWhile digB) = N := ⟨_, rfl⟩
       obtain ⟨r3, hr3⟩ : ∃ r3, rX.dropWhile digB = r3 := ⟨_, rfl⟩
       rw [hBe, hNe, hr3] at c3
       have hBR := hBX.out
       rw [hBe, hNe, hr3] at hBR
       have hBRH := hid hBR
       clear hBR
       cases B with
       | false =>
         clear hBe hNe hr3
         go_wp2_with fail
         refine c3.mono ?_
         rintro e w3 ⟨rfl, h3, k3⟩
         have h3H := hid h3
         have kk3 := hid (kX.out.trans k3)
         have hRq : Hid ((none, r3) = R) := hid (by rw [← hBRH.out]; rfl)
         clear c3 h3 k3
         go_wp2
         go_ret
         rw [← hRq.out]
         exact ⟨_, rfl, rfl, h3H.out, kk3.out⟩
       | true =>
         have hlt := nm_pos hBe
         rw [hr3] at hlt
         have hrg := nm_range (pneg_digs rX) hBe
         rw [hNe] at hrg
         obtain ⟨m, rfl⟩ := Int.eq_ofNat_of_zero_le hrg.1
         have hm : m < 256 := by have := hrg.2; omega
         have hmz : (m : Int) < 256 := by omega
         have hwm : IntKind.u8.wrap (m : Int) = (m : Int) := by rw [IntKind.wrap_u8]; omega
         clear hBe hNe hr3 hrg
         go_wp2_with fail
         refine c3.mono ?_
         rintro e w3 ⟨rfl, h3, k3⟩
         have kk3 := kX.out.trans k3
         have own3 := k3.own ownX.out (fun j hj e => by omega)
         obtain ⟨i0, hi, hz0, hz1, hz2⟩ := info_parts infoB8
         have hR1 := World.ownsRow.alloc own3 (.cells #[.int .u8 (m : Int)] 5)
         obtain ⟨v', w4, hrn, hown4, hg4, _⟩ := run_append_own (P := Tryz.prog) (w3.alloc (.cells #[.int .u8 (m : Int)] 5)) w.heap.size 25 25 5 i0 (.int .u8 0) 1 1 Tryz.underlying25 hi hz0 hz1 hz2 rfl (by decide) (.slice o acc.length c) acc.length (bts acc) hR1 ⟨w3.heap.size, 0, none⟩ 1 1 [.int .u8 (m : Int)] rfl (cell_one_new _ _ _) (by intro u hu; simp at hu; subst hu; rfl) (by unfold maxLen; omega) (by omega) (by have := kk3.size; simp; omega)
         obtain ⟨_, hb'⟩ := kept_grown hR1 hg4 (by have := kk3.size; simp; omega)
         have hb : Below w.heap.size w3 w4 := ((Below.refl _ w3).alloc kk3.size _).trans hb'
         obtain ⟨o4, c4, rfl⟩ := own_form hown4
         have kk4 := hid (kk3.then_below hb)
         have h4H : Hid (Rdr g r3 ov w4) := hid ⟨(hb.block g hgl).trans h3.at_⟩
         have e4 : acc.length + 1 = (acc ++ [m]).length := by simp
         have own4 : Hid (w4.ownsRow w.heap.size 5 1 (.slice o4 (acc ++ [m]).length c4) (acc ++ [m]).length (bts (acc ++ [m]))) := hid (by rw [← e4, bts_snoc]; exact hown4)
         have hLm4 : Hid (Lm 256 (acc ++ [m])) := hid (lm_snoc hLm.out hm)
         have e4H := hid e4
         obtain ⟨k, rfl⟩ : ∃ k0, k = k0 + 1 := ⟨k - 1, by omega⟩
         have hfin : Hid (binGo (k + 1) r3 (acc ++ [m]) = R) := hid (by rw [← hBRH.out]; rfl)
         have hm1 : restLen g w4 < restLen g wr := by rw [h4H.out.len, hRd.out.len]; omega
         have hm1H := hid hm1
         have hl4 : (acc ++ [m]).length + r3.length ≤ r.length := by simp; omega
         have hl4H := hid hl4
         clear c3 h3 k3 kk3 own3 hR1 hown4 hg4 hb' hb e4 hm1 hl4
         go_wp2_with (at_builtin; refine Lib.wpList_append_run _ rfl _ _ _ _ rfl _ _ rfl rfl _ _ hrn ?_)
         exact ⟨⟨acc ++ [m], r3, o4, c4, k, by rw [← e4H.out], own4, h4H, kk4, hLm4, hl4H.out, by omega, hfin⟩, hm1H.out⟩
     · have hal : (0 : Int) < (acc.length : Int) := by
         have : acc.length ≠ 0 := fun h => ha (List.eq_nil_of_length_eq_zero h)
         omega
       have haH := hid ha
       clear ha
       have c2 := skip_w g q1 ov 44 44 rfl (by decide) w1 h1 (hgH.out _ kk1.out)
       obtain ⟨s2, hs2⟩ : ∃ s2, skB 44 q1 = s2 := ⟨_, rfl⟩
       obtain ⟨rX, hrX⟩ : ∃ rX, skR 44 q1 = rX := ⟨_, rfl⟩
       have hlX : rX.length ≤ q1.length := by rw [← hrX]; exact skR_le _ _
       rw [hs2, hrX] at c2
       have hs2H := hid hs2
       have hrXH := hid hrX
       clear hs2 hrX c1 h1 k1
       cases s2 with
       | false =>
         have hRq : Hid ((none, q1) = R) := hid (by
           rw [← hBf.out, if_pos ⟨haH.out, hs2H.out⟩])
         have hqr : rX = q1 := by rw [← hrXH.out]; exact skR_no hs2H.out
         subst hqr
         go_wp2_with fail
         refine c2.mono ?_
         rintro e w2 ⟨rfl, h2, k2⟩
         have h2H := hid h2
         have kk2 := hid (kk1.out.trans k2)
         clear c2 h2 k2
         go_wp2
         go_ret
         rw [← hRq.out]
         exact ⟨_, rfl, rfl, h2H.out, kk2.out⟩
       | true =>
         go_wp2_with fail
         refine c2.mono ?_
         rintro e wX ⟨rfl, h2, k2⟩
         have hX := hid h2
         have kX := hid (kk1.out.trans k2)
         have ownX := hid (k2.own own1.out (fun j hj e => by omega))
         have hBX : Hid ((if nmB 255 (rX.takeWhile digB) then binGo k (rX.dropWhile digB) (acc ++ [(nmN 255 (rX.takeWhile digB)).toNat]) else (none, rX.dropWhile digB)) = R) := hid (by
           have := hBf.out
           rw [if_neg (fun h => by have := h.2; rw [hs2H.out] at this; cases this), if_neg haH.out, hrXH.out] at this
           exact this)
         clear c2 h2 k2
         have c3 := rdnum_w g rX ov 255 wX (by omega) hX.out
         obtain ⟨B, hBe⟩ : ∃ B, nmB 255 (rX.takeWhile digB) = B := ⟨_, rfl⟩
         obtain ⟨N, hNe⟩ : ∃ N, nmN 255 (rX.takeWhile digB) = N := ⟨_, rfl⟩
         obtain ⟨r3, hr3⟩ : ∃ r3, rX.dropWhile digB = r3 := ⟨_, rfl⟩
         rw [hBe, hNe, hr3] at c3
         have hBR := hBX.out
         rw [hBe, hNe, hr3] at hBR
         have hBRH := hid hBR
         clear hBR
         cases B with
         | false =>
           clear hBe hNe hr3
           go_wp2_with fail
           refine c3.mono ?_
           rintro e w3 ⟨rfl, h3, k3⟩
           have h3H := hid h3
           have kk3 := hid (kX.out.trans k3)
           have hRq : Hid ((none, r3) = R) := hid (by rw [← hBRH.out]; rfl)
           clear c3 h3 k3
           go_wp2
           go_ret
           rw [← hRq.out]
           exact ⟨_, rfl, rfl, h3H.out, kk3.out⟩
         | true =>
           have hlt := nm_pos hBe
           rw [hr3] at hlt
           have hrg := nm_range (pneg_digs rX) hBe
           rw [hNe] at hrg
           obtain ⟨m, rfl⟩ := Int.eq_ofNat_of_zero_le hrg.1
           have hm : m < 256 := by have := hrg.2; omega
           have hmz : (m : Int) < 256 := by omega
           have hwm : IntKind.u8.wrap (m : Int) = (m : Int) := by rw [IntKind.wrap_u8]; omega
           clear hBe hNe hr3 hrg
           go_wp2_with fail
           refine c3.mono ?_
           rintro e w3 ⟨rfl, h3, k3⟩
           have kk3 := kX.out.trans k3
           have own3 := k3.own ownX.out (fun j hj e => by omega)
           obtain ⟨i0, hi, hz0, hz1, hz2⟩ := info_parts infoB8
           have hR1 := World.ownsRow.alloc own3 (.cells #[.int .u8 (m : Int)] 5)
           obtain ⟨v', w4, hrn, hown4, hg4, _⟩ := run_append_own (P := Tryz.prog) (w3.alloc (.cells #[.int .u8 (m : Int)] 5)) w.heap.size 25 25 5 i0 (.int .u8 0) 1 1 Tryz.underlying25 hi hz0 hz1 hz2 rfl (by decide) (.slice o acc.length c) acc.length (bts acc) hR1 ⟨w3.heap.size, 0, none⟩ 1 1 [.int .u8 (m : Int)] rfl (cell_one_new _ _ _) (by intro u hu; simp at hu; subst hu; rfl) (by unfold maxLen; omega) (by omega) (by have := kk3.size; simp; omega)
           obtain ⟨_, hb'⟩ := kept_grown hR1 hg4 (by have := kk3.size; simp; omega)
           have hb : Below w.heap.size w3 w4 := ((Below.refl _ w3).alloc kk3.size _).trans hb'
           obtain ⟨o4, c4, rfl⟩ := own_form hown4
           have kk4 := hid (kk3.then_below hb)
           have h4H : Hid (Rdr g r3 ov w4) := hid ⟨(hb.block g hgl).trans h3.at_⟩
           have e4 : acc.length + 1 = (acc ++ [m]).length := by simp
           have own4 : Hid (w4.ownsRow w.heap.size 5 1 (.slice o4 (acc ++ [m]).length c4) (acc ++ [m]).length (bts (acc ++ [m]))) := hid (by rw [← e4, bts_snoc]; exact hown4)
           have hLm4 : Hid (Lm 256 (acc ++ [m])) := hid (lm_snoc hLm.out hm)
           have e4H := hid e4
           obtain ⟨k, rfl⟩ : ∃ k0, k = k0 + 1 := ⟨k - 1, by omega⟩
           have hfin : Hid (binGo (k + 1) r3 (acc ++ [m]) = R) := hid (by rw [← hBRH.out]; rfl)
           have hm1 : restLen g w4 < restLen g wr := by rw [h4H.out.len, hRd.out.len]; omega
           have hm1H := hid hm1
           have hl4 : (acc ++ [m]).length + r3.length ≤ r.length := by simp; omega
           have hl4H := hid hl4
           clear c3 h3 k3 kk3 own3 hR1 hown4 hg4 hb' hb e4 hm1 hl4
           go_wp2_with (at_builtin; refine Lib.wpList_append_run _ rfl _ _ _ _ rfl _ _ rfl rfl _ _ hrn ?_)
           exact ⟨⟨acc ++ [m], r3, o4, c4, k, by rw [← e4H.out], own4, h4H, kk4, hLm4, hl4H.out, by omega, hfin⟩, hm1H.out⟩
inductive Bg where
 | lf (o : Option Tm)
 | rw (c : UInt8)
def BgV (B : Nat) (a : Bg) (v : Value) (w : World) : Prop :=
 match a with
 | .lf o => LeafV B o v w
 | .rw c => ∃ b, v = .iface 61 (.pointer (some ⟨b, 0, none⟩)) ∧ B ≤ b ∧ w.heap[b]? = some (.cells #[.int .i32 (c.toNat : Int), .slice none 0 0, .bool false] 97 (0, 0))
def opL (c : UInt8) (T : Tm) (r : List UInt8) : Bg × List UInt8 := if skB c r then (.lf (some T), skR c r) else (.rw c, r)
theorem tv_bare {Z Z' : Nat → Prop} {w w' : World} {k : Int} {neg : Bool} {nm : ByteArray} {n : Int} {v : Value} (h : TV Z w (.mk k neg [] nm n [] []) v) : TV Z' w' (.mk k neg [] nm n [] []) v := by
 unfold TV at h ⊢
 obtain ⟨od, cd, ol, cl, ob, cb, rfl, h1, h2, h3, h4, h5, h6, h7⟩ := h
 exact ⟨od, cd, ol, cl, ob, cb, rfl, Ls.nil _ _ _, h2, h3, LsB.nil _ _ _, h5, h6, by unfold TR; trivial⟩
set_option maxHeartbeats 2000000 in
theorem opened_w (B : Nat) (g : Nat) (r : List UInt8) (ov : Value) (c : UInt8) (k : Int) (hk : k = (c.toNat : Int)) (hc : c.toNat < 128) (K : Int) (neg : Bool) (nm : ByteArray) (n : Int) (x : Value) (w : World) (h : Rdr g r ov w) (hT : Tabs w) (hB : B ≤ w.heap.size) (hx : TV (Low w) w (.mk K neg [] nm n [] []) x) :
   Calls Tryz.prog 49 #[.pointer (some ⟨g, 0, none⟩), .int .i32 k, x] w fun e w' => ∃ v, e = .returned v ∧ BgV B (opL c (.mk K neg [] nm n [] []) r).1 v w' ∧ Rdr g (opL c (.mk K neg [] nm n [] []) r).2 ov w' ∧ Kpt (fun b => b = g) w w' := by
 subst hk
 obtain ⟨K', neg', od, ld, cd, nm', n', ol, ll, cl, ob, lb, cb, rfl⟩ := hx.form
 obtain ⟨W, hW⟩ : ∃ W, W = w.alloc (.cells #[.int .i64 K', .bool neg', .slice od ld cd, .string nm', .int .i64 n', .slice ol ll cl, .slice ob lb cb] 27) := ⟨_, rfl⟩
 have bW : Below w.heap.size w W := by rw [hW]; exact (Below.refl _ w).alloc (Nat.le_refl _) _
 have hgW : W.heap[w.heap.size]? = some (.cells #[.int .i64 K', .bool neg', .slice od ld cd, .string nm', .int .i64 n', .slice ol ll cl, .slice ob lb cb] 27 (0, 0)) := by rw [hW]; exact heap_alloc_new w _
 have hszW : W.heap.size = w.heap.size + 1 := by rw [hW]; simp
 have c1 := skip_w g r ov c _ rfl hc W (h.below bW) (hT.below bW)
 have hglH := hid h.lt
 have hszH := hid hszW
 have hgWH := hid hgW
 have hxH := hid hx
 unfold opL
 obtain ⟨s1, hs1⟩ : ∃ s1, skB c r = s1 := ⟨_, rfl⟩
 obtain ⟨q1, hq1⟩ : ∃ q1, skR c r = q1 := ⟨_, rfl⟩
 have hqq : Hid (s1 = false → q1 = r) := hid (fun e => by rw [← hq1]; exact skR_no (by rw [hs1, e]))
 rw [hs1, hq1] at c1
 rw [hs1, hq1]
 clear hs1 hq1 h hT hgW hszW hx
 unfold tmV
 go_enter Tryz.func49, Tryz.ntmps49
 go_upto_region 1 with fail
 rw [← hW]
 clear hW
 go_wp2_with fail
 refine c1.mono ?_
 rintro e w1 ⟨rfl, h1, k1⟩
 have kk1 : Hid (Kpt (fun b => b = g) w w1) := hid ((Kpt.of_below bW).trans k1)
 have hg1 : w1.heap[w.heap.size]? = some (.cells #[.int .i64 K', .bool neg', .slice od ld cd, .string nm', .int .i64 n', .slice ol ll cl, .slice ob lb cb] 27 (0, 0)) := (k1.block _ (by rw [hszH.out]; omega) (fun e => by have := hglH.out; omega)).trans hgWH.out
 obtain ⟨y0, y1, y2, y3, y4, y5, y6⟩ := cell7 hg1
 have h1H := hid h1
 have hz1 := hid kk1.out.size
 clear c1 h1 k1 hg1
 cases s1 with
 | true =>
   go_wp2
   go_ret
   exact ⟨_, rfl, ⟨_, rfl, tv_bare hxH.out⟩, h1H.out, kk1.out⟩
 | false =>
   have hqr := hqq.out rfl
   subst hqr
   go_wp2
   go_ret
   refine ⟨_, rfl, ⟨w1.heap.size, rfl, Nat.le_trans hB hz1.out, heap_alloc_new w1 _⟩, h1H.out.below ((Below.refl _ _).alloc (Nat.le_refl _) _), kk1.out.trans (Kpt.of_below ((Below.refl _ _).alloc (Nat.le_refl _) _))⟩
theorem look_dig (r : List UInt8) : digX (Lib.decodeGo (bs r)).1 = (match r with | [] => false | b :: _ => digB b) := by
 cases r with
 | nil => rw [decGo_nil]; rfl
 | cons b t =>
   rw [decGo_cons]
   have h := (dec_at (r := b :: t) (pos := 0) (b := b) rfl).1
   rw [← Lib.decodeL_drop, bs_list] at h
   exact h
set_option maxHeartbeats 1000000 in
theorem look_w (g : Nat) (r : List UInt8) (ov : Value) (w : World) (h : Rdr g r ov w) (hT : Tabs w) :
   Calls Tryz.prog 57 #[.pointer (some ⟨g, 0, none⟩)] w fun e w' => e = .returned (.int .i32 ((Lib.decodeGo (bs r)).1 : Int)) ∧ Below w.heap.size w w' := by
 have c1 := decodeRune_w (bs r) w hT
 obtain ⟨x, hx⟩ : ∃ x, (Lib.decodeGo (bs r)).1 = x := ⟨_, rfl⟩
 obtain ⟨n, hn⟩ : ∃ n, (Lib.decodeGo (bs r)).2 = n := ⟨_, rfl⟩
 rw [hx, hn] at c1
 rw [hx]
 clear hx hn
 obtain ⟨y0, y1, f0, f1⟩ := h.cells
 clear h hT
 go_enter Tryz.func57, Tryz.ntmps57
 go_wp2_with fail
 refine c1.mono ?_
 rintro e w1 ⟨rfl, b1⟩
 go_wp2
 go_ret
 exact ⟨rfl, b1⟩
def lfL (p : Option Tm × List UInt8) : Bg × List UInt8 := (.lf p.1, p.2)
def digH (r : List UInt8) : Bool := match r with | [] => false | b :: _ => digB b
theorem look_dig2 (r : List UInt8) : digX (Lib.decodeGo (bs r)).1 = digH r := by rw [look_dig]; cases r <;> rfl
def beginL (r : List UInt8) : Bg × List UInt8 :=
 if skB 91 r then opL 93 nilT (skR 91 r)
 else if skB 123 r then opL 125 (tupT []) (skR 123 r)
 else if skB 60 r then (if skB 60 (skR 60 r) then lfL (binL (skR 60 (skR 60 r))) else lfL (pidL (skR 60 r)))
 else if skB 35 r then lfL (refL (skR 35 r))
 else if skB 45 r then lfL (intL [45] (skR 45 r))
 else if digH r then lfL (intL [] r) else lfL (nameL r)
theorem LeafV.mono {B B' : Nat} {o : Option Tm} {v : Value} {w : World} (h : LeafV B o v w) (hB : B' ≤ B) : LeafV B' o v w := by
 cases o with
 | none => exact h
 | some T =>
   obtain ⟨x, rfl, hT⟩ := h
   exact ⟨x, rfl, TV.mono (fun k hk hz => ⟨Nat.le_trans hB hz.1, hz.2⟩) _ _ hT⟩
set_option maxHeartbeats 4000000 in
theorem begin_w (g : Nat) (r : List UInt8) (ov : Value) (w0 : World) (hr : r.length ≤ 900000) (h : Rdr g r ov w0) (h00 : ∀ b, r[0]? = some b → stB b.toNat = true) (hg : ∀ w', Kpt (fun b => b = g) w0 w' → TabsQ w') :
   Calls Tryz.prog 23 #[.pointer (some ⟨g, 0, none⟩)] w0 fun e w' => ∃ v, e = .returned v ∧ BgV w0.heap.size (beginL r).1 v w' ∧ Rdr g (beginL r).2 ov w' ∧ Kpt (fun b => b = g) w0 w' := by
 obtain ⟨R, hR⟩ : ∃ R, beginL r = R := ⟨_, rfl⟩
 rw [hR]
 have hRH := hid hR
 clear hR
 have h0 := hid h
 have k0 := hid (Kpt.refl (fun b => b = g) w0)
 clear h
 go_enter Tryz.func23, Tryz.ntmps23
 have h00H := hid h00
 clear h00
 cases s91 : skB 91 r with
 | true =>
   have c91 := skip_w g r ov 91 91 rfl (by decide) w0 h0.out (hg _ k0.out).1
   rw [s91] at c91
   have s91H := hid s91
   clear s91
   obtain ⟨q, hq⟩ : ∃ q, skR 91 r = q := ⟨_, rfl⟩
   have hql : q.length ≤ r.length := by rw [← hq]; exact skR_le _ _
   rw [hq] at c91
   have hqH := hid hq
   clear hq
   go_wp2_with fail
   refine c91.mono ?_
   rintro e wy ⟨rfl, h', k'⟩
   have hy := hid h'
   have ky := hid (k0.out.trans k')
   clear h' k' c91
   have c2 := Nil_w wy
   go_wp2_with fail
   refine c2.mono ?_
   rintro e wz ⟨rfl, bz⟩
   have kz := hid (ky.out.trans (Kpt.of_below bz))
   have hz := hid (hy.out.below bz)
   have cl := opened_w w0.heap.size g q ov 93 93 rfl (by decide) 5 false noS 0 (tmV 5 false nilS noS 0 nilS nilS) wz hz.out (hg _ kz.out).1 kz.out.size (tv_flat 5 noS 0)
   have hRq : Hid (opL 93 nilT q = R) := hid (by rw [← hRH.out]; unfold beginL; rw [s91H.out, if_pos rfl, hqH.out])
   rw [show (Tm.mk 5 false [] noS 0 [] []) = nilT from rfl] at cl
   clear c2 bz
   go_wp2_with fail
   refine cl.mono ?_
   rintro e w9 ⟨v9, rfl, h91', h92', h93'⟩
   have hl1 := hid h91'
   have hl2 := hid h92'
   have hl3 := hid (kz.out.trans h93')
   clear cl h91' h92' h93'
   go_wp2
   go_ret
   rw [← hRq.out]
   exact ⟨_, rfl, hl1.out, hl2.out, hl3.out⟩
 | false =>
   have c91 := skip_w g r ov 91 91 rfl (by decide) w0 h0.out (hg _ k0.out).1
   rw [s91, skR_no s91] at c91
   have s91H := hid s91
   clear s91
   go_wp2_with fail
   refine c91.mono ?_
   rintro e w1 ⟨rfl, h', k'⟩
   have h1 := hid h'
   have k1 := hid (k0.out.trans k')
   clear h' k' c91
   cases s123 : skB 123 r with
   | true =>
     have c123 := skip_w g r ov 123 123 rfl (by decide) w1 h1.out (hg _ k1.out).1
     rw [s123] at c123
     have s123H := hid s123
     clear s123
     obtain ⟨q, hq⟩ : ∃ q, skR 123 r = q := ⟨_, rfl⟩
     have hql : q.length ≤ r.length := by rw [← hq]; exact skR_le _ _
     rw [hq] at c123
     have hqH := hid hq
     clear hq
     go_wp2_with fail
     refine c123.mono ?_
     rintro e wy ⟨rfl, h', k'⟩
     have hy := hid h'
     have ky := hid (k1.out.trans k')
     clear h' k' c123
     have c2 := Tuple_w [] none 0 wy (by simp) (by simp [partsL]) (by simp) (by intro p hp; simp [partsL] at hp) (by unfold TR; trivial)
     go_wp2_with fail
     refine c2.mono ?_
     rintro e wz ⟨vz, rfl, hTz, bz⟩
     have kz := hid (ky.out.trans (Kpt.of_below bz))
     have hz := hid (hy.out.below bz)
     have cl := opened_w w0.heap.size g q ov 125 125 rfl (by decide) 4 false noS 0 vz wz hz.out (hg _ kz.out).1 kz.out.size (tv_low hTz)
     have hRq : Hid (opL 125 (tupT []) q = R) := hid (by rw [← hRH.out]; unfold beginL; rw [s91H.out, s123H.out, if_neg (by simp), if_pos rfl, hqH.out])
     rw [show (Tm.mk 4 false [] noS 0 [] []) = tupT [] from rfl] at cl
     clear c2 bz hTz
     go_wp2_with fail
     refine cl.mono ?_
     rintro e w9 ⟨v9, rfl, h91', h92', h93'⟩
     have hl1 := hid h91'
     have hl2 := hid h92'
     have hl3 := hid (kz.out.trans h93')
     clear cl h91' h92' h93'
     go_wp2
     go_ret
     rw [← hRq.out]
     exact ⟨_, rfl, hl1.out, hl2.out, hl3.out⟩
   | false =>
     have c123 := skip_w g r ov 123 123 rfl (by decide) w1 h1.out (hg _ k1.out).1
     rw [s123, skR_no s123] at c123
     have s123H := hid s123
     clear s123
     go_wp2_with fail
     refine c123.mono ?_
     rintro e w2 ⟨rfl, h', k'⟩
     have h2 := hid h'
     have k2 := hid (k1.out.trans k')
     clear h' k' c123
     cases s60 : skB 60 r with
     | true =>
       have c60 := skip_w g r ov 60 60 rfl (by decide) w2 h2.out (hg _ k2.out).1
       rw [s60] at c60
       have s60H := hid s60
       clear s60
       obtain ⟨q, hq⟩ : ∃ q, skR 60 r = q := ⟨_, rfl⟩
       have hql : q.length ≤ r.length := by rw [← hq]; exact skR_le _ _
       rw [hq] at c60
       have hqH := hid hq
       clear hq
       go_wp2_with fail
       refine c60.mono ?_
       rintro e wy ⟨rfl, h', k'⟩
       have hy := hid h'
       have ky := hid (k2.out.trans k')
       clear h' k' c60
       have c60 := skip_w g q ov 60 60 rfl (by decide) wy hy.out (hg _ ky.out).1
       cases s60b : skB 60 q with
       | true =>
         obtain ⟨q2, hq2⟩ : ∃ q2, skR 60 q = q2 := ⟨_, rfl⟩
         have hql2 : q2.length ≤ q.length := by rw [← hq2]; exact skR_le _ _
         rw [s60b, hq2] at c60
         have hRq : Hid (lfL (binL q2) = R) := hid (by rw [← hRH.out]; unfold beginL; rw [s91H.out, s123H.out, s60H.out, if_neg (by simp), if_neg (by simp), if_pos rfl, hqH.out, s60b, if_pos rfl, hq2])
         clear s60b hq2
         go_wp2_with fail
         refine c60.mono ?_
         rintro e wz ⟨rfl, h', k'⟩
         have hz := hid h'
         have kz := hid (ky.out.trans k')
         have cl := bin_w g q2 ov wz (by omega) h' (fun w' kw => (hg _ (kz.out.trans kw)).1)
         clear h' k' c60
         go_wp2_with fail
         refine cl.mono ?_
         rintro e w9 ⟨v9, rfl, h91', h92', h93'⟩
         have hl1 := hid (h91'.mono kz.out.size)
         have hl2 := hid h92'
         have hl3 := hid (kz.out.trans h93')
         clear cl h91' h92' h93'
         go_wp2
         go_ret
         rw [← hRq.out]
         exact ⟨_, rfl, hl1.out, hl2.out, hl3.out⟩
       | false =>
         rw [s60b, skR_no s60b] at c60
         have hRq : Hid (lfL (pidL q) = R) := hid (by rw [← hRH.out]; unfold beginL; rw [s91H.out, s123H.out, s60H.out, if_neg (by simp), if_neg (by simp), if_pos rfl, hqH.out, s60b, if_neg (by simp)])
         clear s60b
         go_wp2_with fail
         refine c60.mono ?_
         rintro e wz ⟨rfl, h', k'⟩
         have hz := hid h'
         have kz := hid (ky.out.trans k')
         have cl := pid_w g q ov wz (by omega) h' (hg _ kz.out).1 (fun w' kw => (hg _ (kz.out.trans kw)).1)
         clear h' k' c60
         go_wp2_with fail
         refine cl.mono ?_
         rintro e w9 ⟨v9, rfl, h91', h92', h93'⟩
         have hl1 := hid (h91'.mono kz.out.size)
         have hl2 := hid h92'
         have hl3 := hid (kz.out.trans h93')
         clear cl h91' h92' h93'
         go_wp2
         go_ret
         rw [← hRq.out]
         exact ⟨_, rfl, hl1.out, hl2.out, hl3.out⟩
     | false =>
       have c60 := skip_w g r ov 60 60 rfl (by decide) w2 h2.out (hg _ k2.out).1
       rw [s60, skR_no s60] at c60
       have s60H := hid s60
       clear s60
       go_wp2_with fail
       refine c60.mono ?_
       rintro e w3 ⟨rfl, h', k'⟩
       have h3 := hid h'
       have k3 := hid (k2.out.trans k')
       clear h' k' c60
       cases s35 : skB 35 r with
       | true =>
         have c35 := skip_w g r ov 35 35 rfl (by decide) w3 h3.out (hg _ k3.out).1
         rw [s35] at c35
         have s35H := hid s35
         clear s35
         obtain ⟨q, hq⟩ : ∃ q, skR 35 r = q := ⟨_, rfl⟩
         have hql : q.length ≤ r.length := by rw [← hq]; exact skR_le _ _
         rw [hq] at c35
         have hqH := hid hq
         clear hq
         go_wp2_with fail
         refine c35.mono ?_
         rintro e wy ⟨rfl, h', k'⟩
         have hy := hid h'
         have ky := hid (k3.out.trans k')
         clear h' k' c35
         have hRq : Hid (lfL (refL q) = R) := hid (by rw [← hRH.out]; unfold beginL; rw [s91H.out, s123H.out, s60H.out, s35H.out, if_neg (by simp), if_neg (by simp), if_neg (by simp), if_pos rfl, hqH.out])
         have cl := ref_w g q ov wy (by omega) hy.out
         go_wp2_with fail
         refine cl.mono ?_
         rintro e w9 ⟨v9, rfl, h91', h92', h93'⟩
         have hl1 := hid (h91'.mono ky.out.size)
         have hl2 := hid h92'
         have hl3 := hid (ky.out.trans h93')
         clear cl h91' h92' h93'
         go_wp2
         go_ret
         rw [← hRq.out]
         exact ⟨_, rfl, hl1.out, hl2.out, hl3.out⟩
       | false =>
         have c35 := skip_w g r ov 35 35 rfl (by decide) w3 h3.out (hg _ k3.out).1
         rw [s35, skR_no s35] at c35
         have s35H := hid s35
         clear s35
         go_wp2_with fail
         refine c35.mono ?_
         rintro e w4 ⟨rfl, h', k'⟩
         have h4 := hid h'
         have k4 := hid (k3.out.trans k')
         clear h' k' c35
         cases s45 : skB 45 r with
         | true =>
           have c45 := skip_w g r ov 45 45 rfl (by decide) w4 h4.out (hg _ k4.out).1
           rw [s45] at c45
           have s45H := hid s45
           clear s45
           obtain ⟨q, hq⟩ : ∃ q, skR 45 r = q := ⟨_, rfl⟩
           have hql : q.length ≤ r.length := by rw [← hq]; exact skR_le _ _
           rw [hq] at c45
           have hqH := hid hq
           clear hq
           go_wp2_with fail
           refine c45.mono ?_
           rintro e wy ⟨rfl, h', k'⟩
           have hy := hid h'
           have ky := hid (k4.out.trans k')
           clear h' k' c45
           have hRq : Hid (lfL (intL [45] q) = R) := hid (by rw [← hRH.out]; unfold beginL; rw [s91H.out, s123H.out, s60H.out, s35H.out, s45H.out, if_neg (by simp), if_neg (by simp), if_neg (by simp), if_neg (by simp), if_pos rfl, hqH.out])
           have cl := rdint_w g [45] q ⟨#[45]⟩ rfl ov wy (by simp) (by omega) hy.out
           go_wp2_with fail
           refine cl.mono ?_
           rintro e w9 ⟨v9, rfl, h91', h92', h93'⟩
           have hl1 := hid (h91'.mono ky.out.size)
           have hl2 := hid h92'
           have hl3 := hid (ky.out.trans h93')
           clear cl h91' h92' h93'
           go_wp2
           go_ret
           rw [← hRq.out]
           exact ⟨_, rfl, hl1.out, hl2.out, hl3.out⟩
         | false =>
           have c45 := skip_w g r ov 45 45 rfl (by decide) w4 h4.out (hg _ k4.out).1
           rw [s45, skR_no s45] at c45
           have s45H := hid s45
           clear s45
           go_wp2_with fail
           refine c45.mono ?_
           rintro e w5 ⟨rfl, h', k'⟩
           have h5 := hid h'
           have k5 := hid (k4.out.trans k')
           clear h' k' c45
           have c2 := look_w g r ov w5 h5.out (hg _ k5.out).1
           go_wp2_with fail
           refine c2.mono ?_
           rintro e wl ⟨rfl, bl⟩
           have c3 := tdigit_w (Lib.decodeGo (bs r)).1 wl
           rw [look_dig2] at c3
           have kl := hid (k5.out.trans (Kpt.of_below bl))
           have hl := hid (h5.out.below bl)
           clear c2 bl
           obtain ⟨sd, hsd⟩ : ∃ sd, digH r = sd := ⟨_, rfl⟩
           rw [hsd] at c3
           go_wp2_with fail
           refine c3.mono ?_
           rintro e w9 ⟨rfl, rfl⟩
           clear c3
           cases sd with
           | true =>
             have hRq : Hid (lfL (intL [] r) = R) := hid (by rw [← hRH.out]; unfold beginL; rw [s91H.out, s123H.out, s60H.out, s35H.out, s45H.out, hsd, if_neg (by simp), if_neg (by simp), if_neg (by simp), if_neg (by simp), if_neg (by simp), if_pos rfl])
             clear hsd
             have cl := rdint_w g [] r ⟨#[]⟩ rfl ov w9 (by simp) (by omega) hl.out
             go_wp2_with fail
             refine cl.mono ?_
             rintro e w8 ⟨v9, rfl, h91', h92', h93'⟩
             have hl1 := hid (h91'.mono kl.out.size)
             have hl2 := hid h92'
             have hl3 := hid (kl.out.trans h93')
             clear cl h91' h92' h93'
             go_wp2
             go_ret
             rw [← hRq.out]
             exact ⟨_, rfl, hl1.out, hl2.out, hl3.out⟩
           | false =>
             have hRq : Hid (lfL (nameL r) = R) := hid (by rw [← hRH.out]; unfold beginL; rw [s91H.out, s123H.out, s60H.out, s35H.out, s45H.out, hsd, if_neg (by simp), if_neg (by simp), if_neg (by simp), if_neg (by simp), if_neg (by simp), if_neg (by simp)])
             clear hsd
             have cl := name_w g r ov w9 (by omega) hl.out h00H.out (hg _ kl.out)
             go_wp2_with fail
             refine cl.mono ?_
             rintro e w8 ⟨v9, rfl, h91', h92', h93'⟩
             have hl1 := hid (h91'.mono kl.out.size)
             have hl2 := hid h92'
             have hl3 := hid (kl.out.trans h93')
             clear cl h91' h92' h93'
             go_wp2
             go_ret
             rw [← hRq.out]
             exact ⟨_, rfl, hl1.out, hl2.out, hl3.out⟩
end Go.Proofs.YtlojfmlaookpmaaGreatDoor
