/- strconv.FormatInt at base 16, of a sign below 128. -/
import Derived.Test.YtppfgcbigohkkaaDoorRunesBuilder
import Derived.Laws.IdiomStrings
namespace Go.Proofs.YtppfgcbigohkkaaDoor
open Go.ChangeShapes Go.WideShapes Go.ChangeAt Go.RowKit Go.Shelf
set_option linter.unusedSimpArgs false
set_option linter.unusedVariables false

def hexD (n : Nat) : Nat := if n < 10 then 48 + n else 87 + n
def hex2 (r : Nat) : List Nat := if r < 16 then [hexD r] else [hexD (r / 16), hexD (r % 16)]

theorem digits_at : ∀ k : Fin 16, ((⟨#[48, 49, 50, 51, 52, 53, 54, 55, 56, 57, 97, 98, 99, 100, 101, 102, 103, 104, 105, 106, 107, 108, 109, 110, 111, 112, 113, 114, 115, 116, 117, 118, 119, 120, 121, 122]⟩ : ByteArray)[k.val]'(by have := k.isLt; show k.val < 36; omega)).toNat = hexD k.val := by decide +kernel
theorem and15n (r : Nat) (hr : r < 128) : bits .and .u64 (r : Int) 15 = ((r % 16 : Nat) : Int) := by
  have h := bits_and_u64_nat r 15 (by omega) (by decide)
  rw [show ((15 : Nat) : Int) = 15 from rfl] at h
  rw [h]
  congr 1
  exact Nat.and_two_pow_sub_one_eq_mod r 4
theorem hexD_lt (k : Nat) (h : k < 16) : hexD k < 128 := by unfold hexD; split <;> omega
theorem heap_set' {w : World} {b j : Nat} {cs : Array Value} {T : TypeId} (h : w.heap[b]? = some (.cells cs T (0, 0))) (q : Value) :
    (w.setCell ⟨b, j, none⟩ q).heap[b]? = some (.cells (cs.setIfInBounds j q) T (0, 0)) := by
  simp [World.setCell, Array.getElem?_modify, h]
theorem tabAt_below {g : Nat} {tab : List Nat} {w w' : World} (h : TabAt g tab w) (hb : Below w.heap.size w w') : TabAt g tab w' := fun j hj =>
  (hb.cell (World.block_lt_of_cell? _ _ (h j hj))).trans (h j hj)
theorem pow2_w (w : World) :
    Calls Tryd.prog 76 #[.int .i64 16] w fun e w' => e = .returned (.bool true) ∧ w = w' := by
  have h : bits .and .i64 16 15 = 0 := by decide +kernel
  go_enter Tryd.func76, Tryd.ntmps76
  go_wp2
  all_goals go_ret
  all_goals (refine ⟨?_, rfl⟩; simp [h])
set_option maxHeartbeats 1000000 in
set_option maxRecDepth 100000 in
theorem formatBits_w (r : Nat) (hr : r < 128) (w : World) (hT : TabAt 5 Lib.deBruijn64tab w) :
    Calls Tryd.prog 72 #[.slice none 0 0, .int .u64 (r : Int), .int .i64 16, .bool false, .bool false] w fun e w' => e = .returned (.tuple #[.slice none 0 0, .string ⟨(en (hex2 r)).toArray⟩]) ∧ Below w.heap.size w w' := by
  have hz : Lib.ctz 64 16 = 4 := by decide +kernel
  have hT1 : ∀ o, TabAt 5 Lib.deBruijn64tab (w.alloc o) := fun o => tabAt_below hT ((Below.refl w.heap.size w).alloc (Nat.le_refl _) o)
  go_enter Tryd.func72, Tryd.ntmps72
  go_wp2_with (first
    | (go_at_call 76; refine (pow2_w _).mono ?_; rintro e w1 ⟨rfl, rfl⟩)
    | (go_at_call 77; refine (trailing_w 16 (by decide) _ (fun _ => hT1 _)).mono ?_; rintro e w1 ⟨rfl, rfl⟩))
  go_loopw [1, 13] (fun u i wr => ∃ cs : Array Value, wr.heap[w.heap.size]? = some (.cells cs 90 (0, 0)) ∧ cs.size = 65 ∧ Below w.heap.size w wr ∧ Hid ((u = .int .u64 (r : Int) ∧ i = .int .i64 65) ∨ (16 ≤ r ∧ u = .int .u64 ((r / 16 : Nat) : Int) ∧ i = .int .i64 64 ∧ cs[64]? = some (.int .u8 (hexD (r % 16) : Int))))) (fun u _ _ => (intOf u).toNat)
  case atStart =>
    refine ⟨Tryd.zeroCells90, Go.heap_alloc_new w _, by decide +kernel, (Below.refl _ w).alloc (Nat.le_refl _) _, hid (Or.inl ⟨rfl, rfl⟩)⟩
  case round =>
    obtain ⟨cs, hblk, hcs, hbw, hor⟩ := hrel
    have cell : ∀ j, wr.cell? ⟨w.heap.size, j, none⟩ = cs[j]? := fun j => Lib.cell_of_heap hblk j
    have fz : ∀ j, wr.frozen? ⟨w.heap.size, j, none⟩ = false := fun j => Lib.frozen_of_heap hblk j
    rcases hor.out with ⟨rfl, rfl⟩ | ⟨h16, rfl, rfl, h64⟩
    · by_cases h16 : 16 ≤ r
      · have hand := and15n r hr
        obtain ⟨x, hx⟩ : ∃ x, cs[64]? = some x := ⟨cs[64]'(by omega), by simp [hcs]⟩
        have c64 := (cell 64).trans hx
        have f64 := fz 64
        have h16z : (16 : Int) ≤ (r : Int) := by omega
        have hdg := digits_at ⟨r % 16, by omega⟩
        go_wp2
        refine ⟨⟨_, heap_set' hblk _, by simpa using hcs, hbw.setCell (p := ⟨w.heap.size, 64, none⟩) (Nat.le_refl _) _, hid (Or.inr ⟨h16, by simp, rfl, ?_⟩)⟩, by simp [intOf]; omega⟩
        simp [hcs, hdg]
      · have h16z : (r : Int) < 16 := by omega
        obtain ⟨x, hx⟩ : ∃ x, cs[64]? = some x := ⟨cs[64]'(by omega), by simp [hcs]⟩
        have c64 := (cell 64).trans hx
        have f64 := fz 64
        have hdg := digits_at ⟨r, by omega⟩
        have hlt := hexD_lt r (by omega)
        have d0 := World.cell?_setCell_same wr ⟨w.heap.size, 64, none⟩ (.int .u8 (hexD r : Int)) c64
        have hcv : (convert 38 9 (.slice (some ⟨w.heap.size, 64, none⟩) 1 1)).run Tryd.prog (wr.setCell ⟨w.heap.size, 64, none⟩ (.int .u8 (hexD r : Int))) = .ok (.string ⟨#[(hexD r).toUInt8]⟩) (wr.setCell ⟨w.heap.size, 64, none⟩ (.int .u8 (hexD r : Int))) := by
          refine run_convert_bytes_back _ _ _ 5 ⟨w.heap.size, 64, none⟩ 1 [(hexD r).toUInt8] Tryd.underlying38 Tryd.underlying5 Tryd.underlying9 ?_
          intro j hj
          match j, hj with
          | 0, _ => simp only [List.getElem_cons_zero]; rw [toU _ (by omega)]; exact d0
        have hen : en (hex2 r) = [(hexD r).toUInt8] := by unfold hex2; rw [if_pos (by omega), en_one, e1_ascii _ hlt]
        go_wp2
        go_ret2
        exact ⟨by first | rfl | (rw [hen]; rfl), hbw.setCell (p := ⟨w.heap.size, 64, none⟩) (Nat.le_refl _) _⟩
    · have hrz : ((r / 16 : Nat) : Int) < 16 := by omega
      obtain ⟨x, hx⟩ : ∃ x, cs[63]? = some x := ⟨cs[63]'(by omega), by simp [hcs]⟩
      have c63 := (cell 63).trans hx
      have f63 := fz 63
      have hdg := digits_at ⟨r / 16, by omega⟩
      have hlt := hexD_lt (r / 16) (by omega)
      have hlt2 := hexD_lt (r % 16) (by omega)
      have d0 := World.cell?_setCell_same wr ⟨w.heap.size, 63, none⟩ (.int .u8 (hexD (r / 16) : Int)) c63
      have d1 : (wr.setCell ⟨w.heap.size, 63, none⟩ (.int .u8 (hexD (r / 16) : Int))).cell? ⟨w.heap.size, 64, none⟩ = some (.int .u8 (hexD (r % 16) : Int)) := by
        rw [World.cell?_setCell_other _ _ _ _ (by simp)]
        exact (cell 64).trans h64
      have hcv : (convert 38 9 (.slice (some ⟨w.heap.size, 63, none⟩) 2 2)).run Tryd.prog (wr.setCell ⟨w.heap.size, 63, none⟩ (.int .u8 (hexD (r / 16) : Int))) = .ok (.string ⟨#[(hexD (r / 16)).toUInt8, (hexD (r % 16)).toUInt8]⟩) (wr.setCell ⟨w.heap.size, 63, none⟩ (.int .u8 (hexD (r / 16) : Int))) := by
        refine run_convert_bytes_back _ _ _ 5 ⟨w.heap.size, 63, none⟩ 2 [(hexD (r / 16)).toUInt8, (hexD (r % 16)).toUInt8] Tryd.underlying38 Tryd.underlying5 Tryd.underlying9 ?_
        intro j hj
        match j, hj with
        | 0, _ => simp only [List.getElem_cons_zero]; rw [toU _ (by omega)]; exact d0
        | 1, _ => simp only [List.getElem_cons_succ, List.getElem_cons_zero]; rw [toU _ (by omega)]; exact d1
      have hen : en (hex2 r) = [(hexD (r / 16)).toUInt8, (hexD (r % 16)).toUInt8] := by
        unfold hex2; rw [if_neg (by omega)]; show e1 _ ++ (e1 _ ++ []) = _; rw [e1_ascii _ hlt, e1_ascii _ hlt2]; rfl
      go_wp2
      go_ret2
      exact ⟨by first | rfl | (rw [hen]; rfl), hbw.setCell (p := ⟨w.heap.size, 63, none⟩) (Nat.le_refl _) _⟩
theorem iformatInt_w (r : Nat) (hr : r < 128) (w : World) (hT : TabAt 5 Lib.deBruijn64tab w) :
    Calls Tryd.prog 66 #[.int .i64 (r : Int), .int .i64 16] w fun e w' => e = .returned (.string ⟨(en (hex2 r)).toArray⟩) ∧ Below w.heap.size w w' := by
  have h0 : ¬ (r : Int) < 0 := by omega
  go_enter Tryd.func66, Tryd.ntmps66
  go_wp2_with (go_at_call 72; refine (formatBits_w r hr _ hT).mono ?_; rintro e w1 ⟨rfl, hb⟩)
  go_ret
  exact ⟨rfl, hb⟩
theorem formatInt_w (r : Nat) (hr : r < 128) (w : World) (hT : TabAt 5 Lib.deBruijn64tab w) :
    Calls Tryd.prog 59 #[.int .i64 (r : Int), .int .i64 16] w fun e w' => e = .returned (.string ⟨(en (hex2 r)).toArray⟩) ∧ Below w.heap.size w w' := by
  go_enter Tryd.func59, Tryd.ntmps59
  go_wp2_with (go_at_call 66; refine (iformatInt_w r hr _ hT).mono ?_; rintro e w1 ⟨rfl, hb⟩)
  go_ret
  exact ⟨rfl, hb⟩
end Go.Proofs.YtppfgcbigohkkaaDoor
