/- Quote and Reverse of the reference: for every text what the signs say. -/
import Derived.Test.YtppfgcbigohkkaaDoorRunesRLess
import Derived.Laws.Cover4
namespace Go.Proofs.YtppfgcbigohkkaaDoor
open Go.ChangeShapes Go.WideShapes Go.ChangeAt Go.RowKit Go.Shelf
set_option linter.unusedSimpArgs false
set_option linter.unusedVariables false

theorem app_mk (x y : Array UInt8) : (⟨x⟩ : ByteArray) ++ ⟨y⟩ = ⟨x ++ y⟩ := by
  apply ByteArray.ext; simp
theorem app_l (x y : List UInt8) : (⟨x.toArray⟩ : ByteArray) ++ ⟨y.toArray⟩ = ⟨(x ++ y).toArray⟩ := by
  rw [app_mk]; simp
theorem digits16 : ∀ k : Fin 16, ((⟨#[48, 49, 50, 51, 52, 53, 54, 55, 56, 57, 97, 98, 99, 100, 101, 102]⟩ : ByteArray).extract k.val (k.val + 1)) = ⟨#[(hexD k.val).toUInt8]⟩ := by decide +kernel
theorem slice16 (q : Nat) (hq : q < 16) (w : World) : (Instr.slice 9 (.string ⟨#[48, 49, 50, 51, 52, 53, 54, 55, 56, 57, 97, 98, 99, 100, 101, 102]⟩) (some (.int .u64 (q : Int))) (some (.int .u64 ((q : Int) + 1))) none).run Tryd.prog w = .ok (.string ⟨#[(hexD q).toUInt8]⟩) w := by
  have h := run_slice_string (P := Tryd.prog) w 9 ⟨#[48, 49, 50, 51, 52, 53, 54, 55, 56, 57, 97, 98, 99, 100, 101, 102]⟩ .u64 .u64 (q : Int) ((q : Int) + 1) Tryd.underlying9 (by omega) (by omega) (by show (q : Int) + 1 ≤ 16; omega)
  rw [show ((q : Int)).toNat = q by omega, show ((q : Int) + 1).toNat = q + 1 by omega] at h
  have hd := digits16 ⟨q, hq⟩
  simp only [] at hd
  rw [hd] at h
  exact h
set_option maxHeartbeats 2000000 in
theorem rdigits_w (r : Nat) (hr : r < 128) (w : World) :
    Calls Tryd.prog 41 #[.int .u64 (r : Int), .int .u64 16] w fun e w' => e = .returned (.string ⟨(en (hex2 r)).toArray⟩) ∧ Below w.heap.size w w' := by
  go_enter Tryd.func41, Tryd.ntmps41
  go_wp2
  go_loopw [0, 5] (fun n s wr => Below w.heap.size w wr ∧ Hid ((n = .int .u64 (r : Int) ∧ s = .string ⟨#[]⟩) ∨ (16 ≤ r ∧ n = .int .u64 ((r / 16 : Nat) : Int) ∧ s = .string ⟨#[(hexD (r % 16)).toUInt8]⟩))) (fun n _ _ => (intOf n).toNat)
  case atStart => exact ⟨Below.refl _ _, hid (Or.inl ⟨rfl, rfl⟩)⟩
  case round =>
    obtain ⟨hbw, hor⟩ := hrel
    rcases hor.out with ⟨rfl, rfl⟩ | ⟨h16, rfl, rfl⟩
    · obtain ⟨q, hq⟩ : ∃ q, r % 16 = q := ⟨_, rfl⟩
      have hq16 : q < 16 := by omega
      have hsl := slice16 q hq16
      have hm : ((r : Int)).tmod 16 = (q : Int) := by rw [Int.tmod_eq_emod_of_nonneg (by omega)]; omega
      have hw : IntKind.u64.wrap ((q : Int) + 1) = (q : Int) + 1 := by rw [IntKind.wrap_u64]; omega
      have hdv : ((r : Int)).tdiv 16 = ((r / 16 : Nat) : Int) := by rw [Int.tdiv_eq_ediv_of_nonneg (by omega)]; omega
      by_cases h16 : 16 ≤ r
      · have hz : (((r / 16 : Nat) : Int) == 0) = false := by simp; omega
        go_wp2
        go_quiet (fail)
        go_wp2
        refine ⟨⟨below_drewNv hbw _, hid (Or.inr ⟨h16, by simp, ?_⟩)⟩, by simp [intOf]; omega⟩
        rw [app_mk, hq]; rfl
      · have hz : (((r / 16 : Nat) : Int) == 0) = true := by simp; omega
        have hen : en (hex2 r) = [(hexD q).toUInt8] := by
          have hqr : q = r := by omega
          unfold hex2; rw [if_pos (by omega), en_one, hqr, e1_ascii _ (hexD_lt _ (by omega))]
        go_wp2
        go_quiet (fail)
        go_wp2
        go_ret
        refine ⟨?_, below_drewNv hbw _⟩
        show Ending.returned (Value.string _) = _
        rw [hen, app_mk]; rfl
    · obtain ⟨q, hq⟩ : ∃ q, r / 16 = q := ⟨_, rfl⟩
      rw [hq]
      have hq16 : q < 16 := by omega
      have hsl := slice16 q hq16
      have hm : ((q : Int)).tmod 16 = (q : Int) := by rw [Int.tmod_eq_emod_of_nonneg (by omega)]; omega
      have hw : IntKind.u64.wrap ((q : Int) + 1) = (q : Int) + 1 := by rw [IntKind.wrap_u64]; omega
      have hdv : ((q : Int)).tdiv 16 = 0 := by rw [Int.tdiv_eq_ediv_of_nonneg (by omega)]; omega
      have hen : en (hex2 r) = [(hexD q).toUInt8, (hexD (r % 16)).toUInt8] := by
        unfold hex2; rw [if_neg (by omega), hq]; show e1 _ ++ (e1 _ ++ []) = _; rw [e1_ascii _ (hexD_lt _ hq16), e1_ascii _ (hexD_lt _ (by omega))]; rfl
      go_wp2
      go_quiet (fail)
      go_wp2
      go_ret
      refine ⟨?_, below_drewNv hbw _⟩
      show Ending.returned (Value.string _) = _
      rw [hen, app_mk]; rfl

theorem enc_e1 (r : Nat) (h : okR r) : (Utf8.encode (r : Int)).data.toList = e1 r := by
  have hv : Utf8.valid (r : Int) = true := by
    unfold okR at h; unfold Utf8.valid; simp; omega
  unfold okR at h
  unfold Utf8.encode e1 Lib.encodeRune
  simp only [hv, if_true]
  have e : ((r : Int)).toNat = r := by omega
  rw [e]
  by_cases h1 : r < 128
  · rw [if_pos (by omega), Lib.encodeRuneZ_one (by omega) (by omega)]; rfl
  by_cases h2 : r ≤ 2047
  · rw [if_neg (by omega), if_pos (by omega), Lib.encodeRuneZ_two (by omega) (by omega)]
    simp only [List.map_cons, List.map_nil]
    congr 1
  by_cases h3 : r ≤ 65535
  · rw [if_neg (by omega), if_neg (by omega), if_pos (by omega), Lib.encodeRuneZ_three (by omega)]
    simp only [List.map_cons, List.map_nil]
    congr 1
  · rw [if_neg (by omega), if_neg (by omega), if_neg (by omega), Lib.encodeRuneZ_four (by omega) (by omega)]
    simp only [List.map_cons, List.map_nil]
    congr 1
theorem runesBytes_en : ∀ (rs : List Nat) (s : ByteArray), okRs rs → ((rs.map fun (r : Nat) => (r : Int)).foldl (fun r n => r ++ Utf8.encode n) s).data.toList = s.data.toList ++ en rs
  | [], s, _ => by simp [en]
  | r :: t, s, h => by
    simp only [List.map_cons, List.foldl_cons]
    rw [runesBytes_en t _ (okRs_cons h).2]
    have e := enc_e1 r (okRs_cons h).1
    simp only [ByteArray.data_append, Array.toList_append]
    rw [e, List.append_assoc]; rfl
theorem runesBytes_mk (rs : List Nat) (h : okRs rs) : runesBytes (rs.map fun (r : Nat) => (r : Int)) = ⟨(en rs).toArray⟩ := by
  have := runesBytes_en rs ByteArray.empty h
  apply ByteArray.ext
  unfold runesBytes
  rw [← Array.toList_inj, this]; simp
/-- 'string(l)' of a row of signs in memory. -/
theorem string_of_runes (g len cap : Nat) (rs : List Nat) (w : World) (h : okRs rs) (hr : RowR g rs w) (hl : rs.length = len) :
    (convert 42 9 (.slice (some ⟨g, 0, none⟩) len cap)).run Tryd.prog w = .ok (.string ⟨(en rs).toArray⟩) w := by
  rw [run_convert_runes_string w 42 9 21 _ _ _ Tryd.underlying42 Tryd.underlying21 Tryd.underlying9]
  have hload : (loadCells ⟨g, 0, none⟩ len).run Tryd.prog w = .ok ((rs.map fun (r : Nat) => (r : Int)).map (Value.int .i32)).toArray w := by
    rw [← hl]
    have := run_loadCells_list (P := Tryd.prog) w ⟨g, 0, none⟩ ((rs.map fun (r : Nat) => (r : Int)).map (Value.int .i32)) (fun j v hj => by
      simp only [List.map_map, List.getElem?_map, Option.map_eq_some_iff] at hj
      obtain ⟨r, hjr, rfl⟩ := hj
      have := hr j r hjr
      simp only [Addr.add]
      split
      · rename_i h0; subst h0; exact this
      · simpa using this)
    simpa using this
  rw [run_runesToString w ⟨g, 0, none⟩ len cap _ hload, runesBytes_mk rs h]

theorem quote_step (A : ByteArray) (x : List UInt8) (r : Nat) (t rest : List Nat) (R : List UInt8) (hx : x = en (escR r)) (h : A.data.toList ++ en (escs (r :: t)) = R) : (A ++ (⟨x.toArray⟩ : ByteArray)).data.toList ++ en (escs t) = R := by
  rw [← h]
  show _ = A.data.toList ++ en (escR r ++ escs t)
  rw [en_append, ← hx]
  simp
set_option maxHeartbeats 4000000 in
set_option maxRecDepth 100000 in
theorem rquote_w (s : ByteArray) (w : World) (hs : s.size ≤ 1000000) (hT : Tabs w) :
    Calls Tryd.prog 21 #[.string s] w fun e w' => e = .returned (.string ⟨(quoteL s.data.toList).toArray⟩) ∧ Below w.heap.size w w' := by
  obtain ⟨R, hR⟩ : ∃ R, quoteL s.data.toList = R := ⟨_, rfl⟩
  rw [hR]
  unfold quoteL at hR
  by_cases hv : Lib.validD s.data.toList = true
  · rw [if_pos hv] at hR
    by_cases hp : plainB s.data.toList = true
    · rw [if_pos hp] at hR
      subst hR
      go_enter Tryd.func21, Tryd.ntmps21
      go_wp2_with fail
      refine (rvalid_w s _ (by omega) hT.1).mono ?_
      rintro e w1 ⟨rfl, b1⟩
      go_wp2_with fail
      refine (rPlain_w s _).mono ?_
      rintro e w2 ⟨rfl, b2⟩
      go_wp2
      go_ret
      exact ⟨by simp, b1.trans (below_le b2 b1.size)⟩
    · rw [if_neg hp] at hR
      have hp' : plainB s.data.toList = false := by simpa using hp
      go_enter Tryd.func21, Tryd.ntmps21
      go_wp2_with fail
      refine (rvalid_w s _ (by omega) hT.1).mono ?_
      rintro e w1 ⟨rfl, b1⟩
      go_wp2_with fail
      refine (rPlain_w s _).mono ?_
      rintro e w2 ⟨rfl, b2⟩
      have B2 : Below w.heap.size w w2 := b1.trans (below_le b2 b1.size)
      clear b1 b2 hT
      go_wp2
      go_loopw [3] (fun av wr => ∃ (pos : Nat) (A : ByteArray), av = .string A ∧ wr.heap[w2.heap.size]? = some (.stringIter s pos) ∧ Below w2.heap.size w2 wr ∧ pos ≤ s.size + 4 ∧ A.size ≤ 1 + 20 * pos ∧ Hid (A.data.toList ++ en (escs (sg (s.data.toList.drop pos))) = 39 :: en (escs (sg s.data.toList)))) (fun _ wr => s.size - wr.iterPos w2.heap.size)
      case atStart =>
        exact ⟨0, ⟨#[39]⟩, rfl, World.iter_heap w2 s 0, (Below.refl _ w2).alloc (Nat.le_refl _) _, by omega, by decide, hid (by simp)⟩
      case round =>
        obtain ⟨pos, A, rfl, hit, hbw, hpz, hal, hH⟩ := hrel
        by_cases hp : pos < s.size
        · have hnx : ∀ ty, (Instr.next (.pointer (some ⟨w2.heap.size, 0, none⟩)) true ty).run Tryd.prog wr = _ := fun ty => Lib.run_next_any_at wr w2.heap.size s pos ty hit hp
          have hwd := Lib.width_pos s pos
          have hw4 : (Utf8.decode s pos).2 ≤ 4 := by
            rw [Lib.decode_at]
            rcases Lib.decodeN_shape (s.size - pos) (s.get! pos).toNat (s.get! (pos + 1)).toNat (s.get! (pos + 2)).toNat (s.get! (pos + 3)).toNat with ⟨_, e⟩ | ⟨_, _, _, _, e⟩ | ⟨_, _, _, _, _, _, e⟩ | ⟨_, _, _, _, _, _, _, e⟩ | e
            all_goals (rw [e]; dsimp only; omega)
          have hit2 := Lib.iterAt_heap wr w2.heap.size s pos (pos + (Utf8.decode s pos).2) hit
          have hbw2 := Lib.below_iterAt hbw (k := w2.heap.size) (Nat.le_refl _) s (pos + (Utf8.decode s pos).2)
          have hst : Hid (sg (s.data.toList.drop pos) = _) := hid (sg_at s pos hp)
          obtain ⟨r, hr⟩ : ∃ r, (Utf8.decode s pos).1 = r := ⟨_, rfl⟩
          have hok : okR r := by
            have := okRs_sg (s.data.toList.drop pos)
            rw [hst.out, hr] at this
            exact this r (by simp)
          rw [hr] at hnx
          have hH1 : Hid (A.data.toList ++ en (escs (r :: sg (s.data.toList.drop (pos + (Utf8.decode s pos).2)))) = 39 :: en (escs (sg s.data.toList))) := hid (by
            have := hH.out
            rw [hst.out, hr] at this
            exact this)
          have hl5 := escR_len r
          have hl20 := en_length_le (escR r)
          have hcv : ∀ W : World, (convert 42 9 (.slice (some ⟨W.heap.size, 0, none⟩) 1 1)).run Tryd.prog (W.alloc (.cells #[.int .i32 (r : Int)] 21)) = .ok (.string ⟨(e1 r).toArray⟩) (W.alloc (.cells #[.int .i32 (r : Int)] 21)) := fun W => by
            have := string_of_runes W.heap.size 1 1 [r] (W.alloc (.cells #[.int .i32 (r : Int)] 21)) (okRs_one hok) (fun j x hj => by
              match j, hj with
              | 0, hj => simp at hj; subst hj; rw [Lib.cell_of_heap (Go.heap_alloc_new W _)]; rfl
              | j + 1, hj => simp at hj) rfl
            rw [en_one] at this
            exact this
          have he4 := (e1_length r).2
          have fin : ∀ (W : World) (A' : ByteArray), W.heap[w2.heap.size]? = some (.stringIter s (pos + (Utf8.decode s pos).2)) → Below w2.heap.size w2 W → A'.data.toList = A.data.toList ++ en (escR r) →
              (∃ (pos' : Nat) (A1 : ByteArray), Value.string A' = .string A1 ∧ W.heap[w2.heap.size]? = some (.stringIter s pos') ∧ Below w2.heap.size w2 W ∧ pos' ≤ s.size + 4 ∧ A1.size ≤ 1 + 20 * pos' ∧ Hid (A1.data.toList ++ en (escs (sg (s.data.toList.drop pos'))) = 39 :: en (escs (sg s.data.toList)))) ∧ s.size - W.iterPos w2.heap.size < s.size - wr.iterPos w2.heap.size := by
            intro W A' hW hB hA
            have hsz : A'.size = A.size + (en (escR r)).length := by
              have h1 : A'.data.toList.length = A'.size := rfl
              have h2 : A.data.toList.length = A.size := rfl
              rw [← h1, ← h2, hA, List.length_append]
            refine ⟨⟨_, A', rfl, hW, hB, by omega, by omega, hid ?_⟩, ?_⟩
            · rw [hA, ← hH1.out, List.append_assoc]
              show _ = A.data.toList ++ en (escR r ++ escs _)
              rw [en_append]
            · simp only [World.iterPos, hW, hit]
              omega
          have hsz2 : w2.heap.size < wr.heap.size := lt_of_heap hit
          have hWs : Hid ((wr.iterAt w2.heap.size s (pos + (Utf8.decode s pos).2)).heap.size = wr.heap.size) := hid (Lib.iterAt_size _ _ _ _)
          have hWa : ∀ o, ((wr.iterAt w2.heap.size s (pos + (Utf8.decode s pos).2)).alloc o).heap[w2.heap.size]? = some (.stringIter s (pos + (Utf8.decode s pos).2)) := fun o => (Lib.alloc_old _ o _ (by rw [hWs.out]; exact hsz2)).trans hit2
          have hBa : ∀ o, Below w2.heap.size w2 ((wr.iterAt w2.heap.size s (pos + (Utf8.decode s pos).2)).alloc o) := fun o => hbw2.alloc (by rw [hWs.out]; omega) o
          by_cases h1 : r = 39 ∨ r = 92
          · have hz : ((r : Int) == 39) = true ∨ (((r : Int) == 39) = false ∧ ((r : Int) == 92) = true) := by
              rcases h1 with rfl | rfl
              · exact Or.inl rfl
              · exact Or.inr ⟨rfl, rfl⟩
            have z1 : ¬ 9223372036854775807 < A.size + 1 := by omega
            have z2 : ¬ 9223372036854775807 < A.size + 1 + (e1 r).length := by omega
            have hesc : en (escR r) = [92] ++ e1 r := by
              unfold escR; rw [if_pos h1]; show e1 92 ++ (e1 r ++ []) = _; rw [List.append_nil]; rfl
            clear h1
            rcases hz with hz | ⟨hz, hz2⟩
            all_goals
              go_wp2
              refine fin _ _ (hWa _) (hBa _) ?_
              rw [hesc]; simp
          · have a1 : ((r : Int) == 39) = false := by simp; omega
            have a2 : ((r : Int) == 92) = false := by simp; omega
            by_cases h2 : r = 10
            · have hesc : en (escR r) = [92, 110] := by subst h2; decide
              have a3 : ((r : Int) == 10) = true := by subst h2; rfl
              have z1 : ¬ 9223372036854775807 < A.size + 2 := by omega
              clear h2 h1
              go_wp2
              refine fin _ _ hit2 hbw2 ?_
              rw [hesc]; simp
            · have a3 : ((r : Int) == 10) = false := by simp; omega
              cases hh : hiddenB r with
              | true =>
                have hlt := hidden_lt hh
                have hesc : en (escR r) = [92, 120] ++ (en (hex2 r) ++ [59]) := by
                  unfold escR
                  rw [if_neg h1, if_neg h2, if_pos hh]
                  show e1 92 ++ (e1 120 ++ en (hex2 r ++ [59])) = _
                  rw [en_append, en_one]
                  rfl
                have hxb : (en (hex2 r)).length ≤ 8 := by
                  have := en_length_le (hex2 r); have := hex2_len r; omega
                have hz : (r : Int) < 32 ∨ (¬ (r : Int) < 32 ∧ ((r : Int) == 127) = true) := by
                  simp [hiddenB] at hh
                  by_cases h32 : r < 32
                  · exact Or.inl (by omega)
                  · exact Or.inr ⟨by omega, by simp; omega⟩
                have hwr : IntKind.u64.wrap (r : Int) = (r : Int) := by rw [IntKind.wrap_u64]; omega
                have z1 : ¬ 9223372036854775807 < A.size + 2 := by omega
                have z2 : ¬ 9223372036854775807 < A.size + 2 + (en (hex2 r)).length := by omega
                have z3 : ¬ 9223372036854775807 < A.size + 2 + (en (hex2 r)).length + 1 := by omega
                have cd := rdigits_w r hlt
                rcases hz with hz | ⟨hz, hz2⟩
                all_goals
                  go_wp2_with fail
                  refine (cd _).mono ?_
                  rintro e w5 ⟨rfl, b5⟩
                  have hit5 := (b5.block _ (lt_of_heap hit2)).trans hit2
                  have hB5 := hbw2.trans (below_le b5 (by rw [hWs.out]; omega))
                  go_wp2
                  refine fin _ _ hit5 hB5 ?_
                  rw [hesc]; simp
              | false =>
                have hesc : en (escR r) = e1 r := by
                  unfold escR
                  rw [if_neg h1, if_neg h2, if_neg (by simp [hh]), en_one]
                have g1 : ¬ ((r : Int) < 32) := by simp [hiddenB] at hh; omega
                have g2 : ((r : Int) == 127) = false := by simp [hiddenB] at hh; simp; omega
                have z1 : ¬ 9223372036854775807 < A.size + (e1 r).length := by omega
                go_wp2
                refine fin _ _ (hWa _) (hBa _) ?_
                rw [hesc]; simp
        · have hnx : ∀ ty, (Instr.next (.pointer (some ⟨w2.heap.size, 0, none⟩)) true ty).run Tryd.prog wr = _ := fun ty => Lib.run_next_end_at wr w2.heap.size s pos ty hit hp
          have hacc := hH.out
          rw [sg_end s pos hp] at hacc
          simp only [escs, en, List.append_nil] at hacc
          have hfin : R = A.data.toList ++ [39] := by
            rw [← hR, hacc]
            show e1 39 ++ en (escs (sg s.data.toList) ++ [39]) = _
            rw [en_append, en_one]; rfl
          have z1 : ¬ 9223372036854775807 < A.size + 1 := by omega
          have hAe : A ++ (⟨#[39]⟩ : ByteArray) = ⟨R.toArray⟩ := by
            apply ByteArray.ext
            rw [← Array.toList_inj, hfin]; simp
          clear hacc hfin hR hH
          go_wp2
          go_ret
          refine ⟨?_, B2.trans (below_le hbw B2.size)⟩
          show Ending.returned (Value.string _) = _
          first | rw [hAe] | rfl
  · rw [if_neg hv] at hR
    subst hR
    have hv' : Lib.validD s.data.toList = false := by simpa using hv
    go_enter Tryd.func21, Tryd.ntmps21
    go_wp2_with fail
    refine (rvalid_w s _ (by omega) hT.1).mono ?_
    rintro e w1 ⟨rfl, b1⟩
    go_wp2
    go_ret
    exact ⟨rfl, b1⟩
end Go.Proofs.YtppfgcbigohkkaaDoor
