/- Less of package runes: for any two texts what the signs say, or the bytes. -/
import Derived.Test.YtppfgcbigohkkaaDoorRunesReverse
import Derived.Lib.RuneCountTail
namespace Go.Proofs.YtppfgcbigohkkaaDoor
open Go.ChangeShapes Go.WideShapes Go.ChangeAt Go.RowKit Go.Shelf
set_option linter.unusedSimpArgs false
set_option linter.unusedVariables false

def lexZ : List Nat → List Nat → Int
  | [], [] => 0
  | [], _ :: _ => -1
  | _ :: _, [] => 1
  | x :: xs, y :: ys => if x = y then lexZ xs ys else cmpZ (x : Int) (y : Int)
def lessZ (a b : List UInt8) : Int := if Lib.validD a && Lib.validD b then lexZ (sg a) (sg b) else Lib.compareBytes a b

/-- A well-formed text at a place: the sign, its width, and what follows is well-formed. -/
theorem valid_at (s : ByteArray) (pos : Nat) (h : pos < s.size) (hv : Lib.validD (s.data.toList.drop pos) = true) :
    Lib.validD (s.data.toList.drop (pos + (Utf8.decode s pos).2)) = true ∧ (e1 (Utf8.decode s pos).1).length = (Utf8.decode s pos).2 ∧ pos + (Utf8.decode s pos).2 ≤ s.size := by
  have hs : s.data.toList.length = s.size := rfl
  have hne : s.data.toList.drop pos ≠ [] := by
    intro e; have := congrArg List.length e; simp only [List.length_drop, List.length_nil] at this; omega
  have hle := Lib.decodeL_le _ hne
  rw [Lib.validD_step _ hne] at hv
  split at hv
  · cases hv
  · rename_i hb
    have he := Lib.encode_decode _ hne hb
    rw [Lib.decodeL_drop] at hv he hle
    rw [List.drop_drop] at hv
    refine ⟨hv, ?_, ?_⟩
    · unfold e1
      rw [he, List.length_take]
      omega
    · rw [List.length_drop] at hle; omega
theorem decodeGo_tail (s : ByteArray) (pos : Nat) (h : pos < s.size) : Lib.decodeGo (s.extract pos s.size) = Utf8.decode s pos := by
  unfold Lib.decodeGo
  rw [Lib.tail_size, if_neg (by omega), Lib.tail_decode, Nat.add_zero]

set_option maxHeartbeats 2000000 in
theorem less_w (a b : ByteArray) (w : World) (ha : a.size ≤ 1000000) (hb : b.size ≤ 1000000) (hT : Tabs w) :
    Calls Tryd.prog 11 #[.string a, .string b] w fun e w' => e = .returned (.int .i64 (lessZ a.data.toList b.data.toList)) ∧ Below w.heap.size w w' := by
  obtain ⟨R, hR⟩ : ∃ R, lessZ a.data.toList b.data.toList = R := ⟨_, rfl⟩
  rw [hR]
  unfold lessZ at hR
  cases va : Lib.validD a.data.toList with
  | false =>
    rw [va, Bool.false_and, if_neg (by simp)] at hR
    go_enter Tryd.func11, Tryd.ntmps11
    go_wp2_with (go_at_call 16; refine (valid_w _ _ (by omega) hT.1).mono ?_; rintro e w1 ⟨rfl, b1⟩)
    refine (compare_w a b _).mono ?_
    rintro e w2 ⟨rfl, rfl⟩
    go_wp2
    go_ret
    exact ⟨by rw [← hR]; rfl, b1⟩
  | true =>
    cases vb : Lib.validD b.data.toList with
    | false =>
      rw [va, vb, Bool.and_false, if_neg (by simp)] at hR
      go_enter Tryd.func11, Tryd.ntmps11
      go_wp2_with fail
      refine (valid_w _ _ (by omega) hT.1).mono ?_
      rintro e w1 ⟨rfl, b1⟩
      go_wp2_with fail
      refine (valid_w _ _ (by omega) (hT.below b1).1).mono ?_
      rintro e w2 ⟨rfl, b2⟩
      go_wp2_with fail
      refine (compare_w a b _).mono ?_
      rintro e w3 ⟨rfl, rfl⟩
      go_wp2
      go_ret
      exact ⟨by rw [← hR]; rfl, b1.trans (below_le b2 b1.size)⟩
    | true =>
      rw [va, vb, Bool.and_true, if_pos rfl] at hR
      go_enter Tryd.func11, Tryd.ntmps11
      go_wp2_with fail
      refine (valid_w _ _ (by omega) hT.1).mono ?_
      rintro e w1 ⟨rfl, b1⟩
      go_wp2_with fail
      refine (valid_w _ _ (by omega) (hT.below b1).1).mono ?_
      rintro e w2 ⟨rfl, b2⟩
      have B2 : Below w.heap.size w w2 := b1.trans (below_le b2 b1.size)
      have hT2 := (hT.below b1).below b2
      have s2 := B2.size
      clear b1 b2 hT
      go_wp2
      go_loopw [] (fun wr => ∃ (pos : Nat), wr.heap[w2.heap.size]? = some (.stringIter a pos) ∧ Below w2.heap.size w2 wr ∧ pos ≤ a.size ∧ pos ≤ b.size ∧ Hid (Lib.validD (a.data.toList.drop pos) = true) ∧ Hid (Lib.validD (b.data.toList.drop pos) = true) ∧ Hid (lexZ (sg (a.data.toList.drop pos)) (sg (b.data.toList.drop pos)) = R)) (fun wr => a.size - wr.iterPos w2.heap.size)
      case atStart => exact ⟨0, World.iter_heap w2 a 0, (Below.refl _ w2).alloc (Nat.le_refl _) _, by omega, by omega, hid (by simpa using va), hid (by simpa using vb), hid (by simpa using hR)⟩
      case round =>
        obtain ⟨pos, hit, hbw, hpa, hpb, hva, hvb, hH⟩ := hrel
        clear hR va vb
        by_cases hp : pos < a.size
        · have hnx : ∀ ty, (Instr.next (.pointer (some ⟨w2.heap.size, 0, none⟩)) true ty).run Tryd.prog wr = _ := fun ty => Lib.run_next_any_at wr w2.heap.size a pos ty hit hp
          have hwd := Lib.width_pos a pos
          have hit2 := Lib.iterAt_heap wr w2.heap.size a pos (pos + (Utf8.decode a pos).2) hit
          have hbw2 := Lib.below_iterAt hbw (k := w2.heap.size) (Nat.le_refl _) a (pos + (Utf8.decode a pos).2)
          have hst : Hid (sg (a.data.toList.drop pos) = _) := hid (sg_at a pos hp)
          have hA := valid_at a pos hp hva.out
          by_cases hq : pos < b.size
          · have hB := valid_at b pos hq hvb.out
            have hqz : ¬ ((b.size : Int) ≤ (pos : Int)) := by omega
            have hstb : Hid (sg (b.data.toList.drop pos) = _) := hid (sg_at b pos hq)
            have hTr := hT2.below hbw2
            have hdg : Lib.decodeGo (b.extract pos b.size) = Utf8.decode b pos := decodeGo_tail b pos hq
            obtain ⟨x, hx⟩ : ∃ x, (Utf8.decode a pos).1 = x := ⟨_, rfl⟩
            obtain ⟨y, hy⟩ : ∃ y, (Utf8.decode b pos).1 = y := ⟨_, rfl⟩
            rw [hx] at hnx
            by_cases hxy : x = y
            · have hxyz : ((x : Int) == (y : Int)) = true := by simp [hxy]
              go_wp2_with fail
              refine (decodeRune_w _ _ hTr.1).mono ?_
              rw [hdg, hy]
              rintro e w3 ⟨rfl, b3⟩
              have hit3 : w3.heap[w2.heap.size]? = some (.stringIter a (pos + (Utf8.decode a pos).2)) := (b3.block _ (lt_of_heap hit2)).trans hit2
              have hww : (Utf8.decode a pos).2 = (Utf8.decode b pos).2 := by rw [← hA.2.1, ← hB.2.1, hx, hy, hxy]
              go_wp2
              go_roundw
              case rel =>
                refine ⟨pos + (Utf8.decode a pos).2, hit3, hbw2.trans (below_le b3 (by have := hbw2.size; omega)), hA.2.2, by rw [hww]; exact hB.2.2, hid hA.1, hid (by rw [hww]; exact hB.1), hid ?_⟩
                rw [← hH.out, hst.out, hstb.out, hx, hy, hww]
                rw [lexZ, if_pos hxy]
              case measure =>
                simp only [World.iterPos, hit3, hit]
                omega
            · have hxyz : ((x : Int) == (y : Int)) = false := by simp; omega
              have hres : R = cmpZ (x : Int) (y : Int) := by
                rw [← hH.out, hst.out, hstb.out, hx, hy, lexZ, if_neg hxy]
              go_wp2_with fail
              refine (decodeRune_w _ _ hTr.1).mono ?_
              rw [hdg, hy]
              rintro e w3 ⟨rfl, b3⟩
              go_wp2_with fail
              refine (compareRune_w _ _ _).mono ?_
              rintro e w4 ⟨rfl, rfl⟩
              go_wp2
              go_ret
              refine ⟨by rw [hres]; rfl, B2.trans (below_le (hbw2.trans (below_le b3 (by have := hbw2.size; omega))) s2)⟩
          · have hqz : (b.size : Int) ≤ (pos : Int) := by omega
            have hres : R = 1 := by
              rw [← hH.out, hst.out, sg_end b pos hq]; rfl
            go_wp2
            go_ret
            exact ⟨by rw [hres]; rfl, B2.trans (below_le hbw2 s2)⟩
        · have hnx : ∀ ty, (Instr.next (.pointer (some ⟨w2.heap.size, 0, none⟩)) true ty).run Tryd.prog wr = _ := fun ty => Lib.run_next_end_at wr w2.heap.size a pos ty hit hp
          have hres : R = Lib.compareInt (a.size : Int) (b.size : Int) := by
            rw [← hH.out, sg_end a pos hp]
            unfold Lib.compareInt
            by_cases hq : pos < b.size
            · rw [sg_at b pos hq, if_pos (by omega)]; rfl
            · rw [sg_end b pos hq, if_neg (by omega), if_neg (by omega)]; rfl
          go_wp2_with fail
          refine (compareInt_w _ _ _).mono ?_
          rintro e w4 ⟨rfl, rfl⟩
          go_wp2
          go_ret
          exact ⟨by rw [hres]; rfl, B2.trans (below_le hbw s2)⟩
end Go.Proofs.YtppfgcbigohkkaaDoor
