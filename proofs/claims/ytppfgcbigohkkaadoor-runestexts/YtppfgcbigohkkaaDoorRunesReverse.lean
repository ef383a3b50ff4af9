/- Reverse of package runes: for every text what the signs say. -/
import Derived.Test.YtppfgcbigohkkaaDoorRunesQuote
import Derived.Deep.OwnRows
namespace Go.Proofs.YtppfgcbigohkkaaDoor
open Go.ChangeShapes Go.WideShapes Go.ChangeAt Go.RowKit Go.Shelf
set_option linter.unusedSimpArgs false
set_option linter.unusedVariables false
def reverseL (l : List UInt8) : List UInt8 := if Lib.validD l then en (sg l).reverse else []
theorem below_setCells {B b : Nat} (hB : B ≤ b) : ∀ (vs : List Value) (o : Nat) {a w : World}, Below B a w → Below B a (w.setCells b o vs)
  | [], _, _, _, h => h
  | v :: r, o, _, _, h => below_setCells hB r (o + 1) (h.setCell (p := ⟨b, o, none⟩) hB v)
theorem heap_setCells {b k : Nat} (hk : k ≠ b) : ∀ (vs : List Value) (o : Nat) (w : World), (w.setCells b o vs).heap[k]? = w.heap[k]?
  | [], _, _ => rfl
  | v :: r, o, w => by
    rw [World.setCells, heap_setCells hk r (o + 1)]
    exact Below.heap_setCell _ _ _ _ (fun e => hk (by first | exact e | exact e.symm))
theorem runeLen_e1 (r : Nat) (h : okR r) : Lib.runeLen (r : Int) = ((e1 r).length : Int) := by
  unfold okR at h
  unfold Lib.runeLen e1 Lib.encodeRune
  by_cases h1 : r < 128
  · rw [Lib.encodeRuneZ_one (by omega) (by omega), if_neg (by omega), if_pos (by omega)]; simp
  by_cases h2 : r ≤ 2047
  · rw [Lib.encodeRuneZ_two (by omega) (by omega), if_neg (by omega), if_neg (by omega), if_pos (by omega)]; simp
  by_cases h3 : r ≤ 65535
  · rw [Lib.encodeRuneZ_three (by omega), if_neg (by omega), if_neg (by omega), if_neg (by omega), if_neg (by omega), if_pos (by omega)]; simp
  · rw [Lib.encodeRuneZ_four (by omega) (by omega), if_neg (by omega), if_neg (by omega), if_neg (by omega), if_neg (by omega), if_neg (by omega), if_pos (by omega)]; simp
theorem en_reverse_length : ∀ l : List Nat, (en l.reverse).length = (en l).length
  | [] => rfl
  | r :: t => by
    rw [List.reverse_cons, en_append, en_one, List.length_append, en_reverse_length t]
    show _ = (e1 r ++ en t).length
    rw [List.length_append]; omega
theorem cell_iterAt {w : World} {k b j : Nat} {s : ByteArray} {pos : Nat} (h : b ≠ k) : (w.iterAt k s pos).cell? ⟨b, j, none⟩ = w.cell? ⟨b, j, none⟩ :=
  World.cell?_of_block (a := ⟨b, j, none⟩) (Lib.iterAt_other w k b s pos h)
theorem frozen_iterAt {w : World} {k b j : Nat} {s : ByteArray} {pos : Nat} (h : b ≠ k) : (w.iterAt k s pos).frozen? ⟨b, j, none⟩ = w.frozen? ⟨b, j, none⟩ :=
  World.frozen?_of_block (a := ⟨b, j, none⟩) (Lib.iterAt_other w k b s pos h)
/-- A row of n bytes of the call's own; from place f on it holds l. -/
def Row (g n f : Nat) (l : List UInt8) (w : World) : Prop :=
  (∀ j, j < n → (w.cell? ⟨g, j, none⟩).isSome = true) ∧ (∀ j, w.frozen? ⟨g, j, none⟩ = false) ∧ (∀ j x, l[j]? = some x → w.cell? ⟨g, f + j, none⟩ = some (.int .u8 (x.toNat : Int))) ∧ f + l.length = n
theorem Row.iterAt {g n f : Nat} {l : List UInt8} {w : World} (h : Row g n f l w) {k : Nat} (hk : g ≠ k) (s : ByteArray) (pos : Nat) : Row g n f l (w.iterAt k s pos) :=
  ⟨fun j hj => by rw [cell_iterAt hk]; exact h.1 j hj, fun j => by rw [frozen_iterAt hk]; exact h.2.1 j, fun j x hx => by rw [cell_iterAt hk]; exact h.2.2.1 j x hx, h.2.2.2⟩
theorem Row.put {g n f : Nat} {l : List UInt8} {w : World} (h : Row g n f l w) (m : List UInt8) (f' : Nat) (hf : f' + m.length = f) : Row g n f' (m ++ l) (w.setCells g f' (Lib.byteCells m)) := by
  obtain ⟨h1, h2, h3, h4⟩ := h
  have hml : (Lib.byteCells m).length = m.length := Lib.byteCells_length m
  have hin : ∀ j, j < (Lib.byteCells m).length → (w.cell? ⟨g, f' + j, none⟩).isSome = true := fun j hj => h1 _ (by omega)
  refine ⟨fun j hj => ?_, fun j => by rw [World.frozen?_setCells]; exact h2 j, fun j x hx => ?_, by rw [List.length_append]; omega⟩
  · by_cases hj2 : f' ≤ j ∧ j < f' + m.length
    · have := World.cell?_setCells_in g (Lib.byteCells m) f' w hin (j - f') (by omega)
      rw [show f' + (j - f') = j by omega] at this
      rw [this]; rfl
    · rw [World.cell?_setCells_out g _ _ _ _ (fun _ _ => by simp; omega)]
      exact h1 j hj
  · by_cases hj2 : j < m.length
    · have := World.cell?_setCells_in g (Lib.byteCells m) f' w hin j (by omega)
      rw [this]
      rw [List.getElem?_append_left hj2] at hx
      have hx2 := (List.getElem?_eq_some_iff.1 hx).2
      simp [Lib.byteCells, hx2]
    · rw [World.cell?_setCells_out g _ _ _ _ (fun _ _ => by simp; omega)]
      rw [List.getElem?_append_right (by omega)] at hx
      have := h3 _ _ hx
      rw [show f + (j - m.length) = f' + j by omega] at this
      exact this
set_option maxHeartbeats 2000000 in
theorem reverse_w (s : ByteArray) (w : World) (hs : s.size ≤ 1000000) (hT : Tabs w) :
    Calls Tryd.prog 12 #[.string s] w fun e w' => e = .returned (.string ⟨(reverseL s.data.toList).toArray⟩) ∧ Below w.heap.size w w' := by
  obtain ⟨R, hR⟩ : ∃ R, reverseL s.data.toList = R := ⟨_, rfl⟩
  rw [hR]
  unfold reverseL at hR
  by_cases hv : Lib.validD s.data.toList = true
  · rw [if_pos hv] at hR
    go_enter Tryd.func12, Tryd.ntmps12
    go_wp2_with (go_at_call 16; refine (valid_w s _ (by omega) hT.1).mono ?_; rintro e w1 ⟨rfl, b1⟩)
    have s1 := b1.size
    have hmk := run_make_row' (P := Tryd.prog) 38 5 (.int .u8 0) 1 Tryd.underlying38 info8 rfl .i64 .i64 s.size (by omega) (by omega) w1
    have hW2 : Below w.heap.size w (w1.alloc (.cells (madeCells #[.int .u8 0] s.size) 5)) := b1.alloc s1 _
    have hRow : Row w1.heap.size s.size s.size [] (w1.alloc (.cells (madeCells #[.int .u8 0] s.size) 5)) := by
      have hb := Go.heap_alloc_new w1 (.cells (madeCells #[.int .u8 0] s.size) 5)
      refine ⟨fun j hj => ?_, fun j => Lib.frozen_of_heap hb j, fun j x hx => by simp at hx, by simp⟩
      rw [Lib.cell_of_heap hb]
      have hsz : (madeCells #[Value.int .u8 0] s.size).size = s.size := by rw [size_madeCells]
      simp [hsz, hj]
    obtain ⟨W, hWe⟩ : ∃ W, w1.alloc (.cells (madeCells #[.int .u8 0] s.size) 5) = W := ⟨_, rfl⟩
    have hWs : W.heap.size = w1.heap.size + 1 := by rw [← hWe]; simp
    rw [hWe] at hmk hW2 hRow
    clear hWe
    rw [hmk]
    simp only [Result.andThen]
    rw [Oper.upon_value]
    go_wp2
    go_loopw [4] (fun fv wr => ∃ (pos f : Nat) (done : List Nat), fv = .int .i64 (f : Int) ∧ wr.heap[(w1.heap.size + 1)]? = some (.stringIter s pos) ∧ Below w.heap.size w wr ∧ Row w1.heap.size s.size f (en done) wr ∧ Hid (sg s.data.toList = done.reverse ++ sg (s.data.toList.drop pos)) ∧ f ≤ s.size) (fun _ wr => s.size - wr.iterPos (w1.heap.size + 1))
    case atStart =>
      refine ⟨0, s.size, [], rfl, by rw [← hWs]; exact World.iter_heap W s 0, hW2.alloc (by omega) _, ?_, hid (by simp), Nat.le_refl _⟩
      have hlt : w1.heap.size < W.heap.size := by omega
      have e : (W.iter s 0).heap[w1.heap.size]? = W.heap[w1.heap.size]? := Lib.alloc_old W _ _ hlt
      exact ⟨fun j hj => by rw [World.cell?_of_block (a := ⟨w1.heap.size, j, none⟩) e]; exact hRow.1 j hj, fun j => by rw [World.frozen?_of_block (a := ⟨w1.heap.size, j, none⟩) e]; exact hRow.2.1 j, fun j x hx => by simp [en] at hx, by simp [en]⟩
    case round =>
      obtain ⟨pos, f, done, rfl, hit, hbw, hrow, hH, hfs⟩ := hrel
      have hneq : w1.heap.size ≠ (w1.heap.size + 1) := by omega
      have htot : f + (en done).length = s.size := hrow.2.2.2
      have hall : (en (sg s.data.toList)).length = s.size := by rw [en_of_valid hv]; rfl
      by_cases hp : pos < s.size
      · have hnx : ∀ ty, (Instr.next (.pointer (some ⟨(w1.heap.size + 1), 0, none⟩)) true ty).run Tryd.prog wr = _ := fun ty => Lib.run_next_any_at wr (w1.heap.size + 1) s pos ty hit hp
        have hwd := Lib.width_pos s pos
        have hrl := Lib.rune_le s pos
        have hst : Hid (sg (s.data.toList.drop pos) = _) := hid (sg_at s pos hp)
        have hok : okR (Utf8.decode s pos).1 := by
          have h1 := okRs_sg s.data.toList
          rw [hH.out, hst.out] at h1
          exact h1 _ (by simp)
        have hfe : (e1 (Utf8.decode s pos).1).length ≤ f := by
          have h2 := hall
          rw [hH.out, hst.out, en_append, List.length_append, en_reverse_length] at h2
          have : (en ((Utf8.decode s pos).1 :: sg (s.data.toList.drop (pos + (Utf8.decode s pos).2)))).length = (e1 (Utf8.decode s pos).1).length + (en (sg (s.data.toList.drop (pos + (Utf8.decode s pos).2)))).length := by
            show (e1 _ ++ en _).length = _
            rw [List.length_append]
          omega
        clear hall
        have hll := runeLen_e1 _ hok
        obtain ⟨r, hr⟩ : ∃ r, (Utf8.decode s pos).1 = r := ⟨_, rfl⟩
        obtain ⟨f', hf'⟩ : ∃ f', f = f' + (e1 r).length := ⟨f - (e1 r).length, by rw [← hr]; omega⟩
        have hit2 := Lib.iterAt_heap wr (w1.heap.size + 1) s pos (pos + (Utf8.decode s pos).2) hit
        have hbw2 := Lib.below_iterAt hbw (k := (w1.heap.size + 1)) (by omega) s (pos + (Utf8.decode s pos).2)
        have hrow2 := hrow.iterAt hneq s (pos + (Utf8.decode s pos).2)
        rw [hr] at hrl hok hfe hll
        have hcl : (Lib.runeCells (r : Int)).length = (e1 r).length := Lib.runeCells_length r
        have hlt' : ¬ s.size = f' := by have := (e1_length r).1; omega
        have hsub : ((f : Int) - ((e1 r).length : Int)) = (f' : Int) := by omega
        go_wp2_with (go_at_call 31; refine (runeLen_w _ _).mono ?_; rw [hll]; rintro e w3 ⟨rfl, rfl⟩)
        refine (encodeRune_w w1.heap.size f' (s.size - f') (s.size - f') (r : Int) (by omega) (by omega) _ (by rw [hcl]; omega) (fun j hj => hrow2.1 _ (by rw [hcl] at hj; omega)) (fun j _ => hrow2.2.1 _)).mono ?_
        rintro e w4 ⟨rfl, rfl⟩
        have hbc : Lib.runeCells (r : Int) = Lib.byteCells (e1 r) := (Lib.byteCells_encodeRune r).symm
        go_wp2
        go_roundw
        case rel =>
          refine ⟨pos + (Utf8.decode s pos).2, f', r :: done, rfl, ?_, below_setCells (by omega) _ _ hbw2, ?_, hid ?_, by omega⟩
          · rw [heap_setCells (by omega)]; exact hit2
          · exact hrow2.put (e1 r) f' hf'.symm
          · rw [hH.out, hst.out, hr]; simp
        case measure =>
          have : ((wr.iterAt (w1.heap.size + 1) s (pos + (Utf8.decode s pos).2)).setCells w1.heap.size f' (Lib.byteCells (e1 r))).heap[w1.heap.size + 1]? = some (.stringIter s (pos + (Utf8.decode s pos).2)) := by
            rw [heap_setCells (by omega)]; exact hit2
          simp only [World.iterPos, this, hit]
          omega
      · have hnx : ∀ ty, (Instr.next (.pointer (some ⟨w1.heap.size + 1, 0, none⟩)) true ty).run Tryd.prog wr = _ := fun ty => Lib.run_next_end_at wr (w1.heap.size + 1) s pos ty hit hp
        have hdone := hH.out
        rw [sg_end s pos hp, List.append_nil] at hdone
        have hf0 : f = 0 := by
          rw [hdone, en_reverse_length] at hall
          omega
        have hRd : en done = R := by rw [← hR, hdone, List.reverse_reverse]
        have hcv : (convert 38 9 (.slice (some ⟨w1.heap.size, 0, none⟩) s.size s.size)).run Tryd.prog wr = .ok (.string ⟨R.toArray⟩) wr := by
          have hlen : R.length = s.size := by rw [← hRd]; omega
          rw [← hlen]
          refine run_convert_bytes_back wr _ _ 5 ⟨w1.heap.size, 0, none⟩ R.length R Tryd.underlying38 Tryd.underlying5 Tryd.underlying9 ?_
          intro j hj
          have := hrow.2.2.1 j R[j] (by rw [hRd]; simp [hj])
          rw [hf0] at this
          rw [Nat.zero_add] at this
          rw [← this]; simp only [Addr.add]; split
          · rename_i h0; rw [h0]
          · simp
        clear hR hRd hdone hH hall
        go_wp2
        go_ret
        exact ⟨rfl, hbw⟩
  · rw [if_neg hv] at hR
    subst hR
    have hv' : Lib.validD s.data.toList = false := by simpa using hv
    go_enter Tryd.func12, Tryd.ntmps12
    go_wp2_with (go_at_call 16; refine (valid_w s _ (by omega) hT.1).mono ?_; rintro e w1 ⟨rfl, b1⟩)
    go_ret
    exact ⟨rfl, b1⟩
end Go.Proofs.YtppfgcbigohkkaaDoor
