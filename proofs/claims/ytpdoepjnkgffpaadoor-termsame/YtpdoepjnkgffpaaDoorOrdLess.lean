/- Less of package runes and of its reference: for any two texts what the signs say, or the bytes. -/
import Derived.Test.YtpdoepjnkgffpaaDoorTermMayC
import Derived.Lib.RuneCountTail
import Derived.Laws.IdiomStrings
import Derived.Deep.QuietTactic
import Derived.BigQuiet
import Derived.Deep.OwnRows
namespace Go.Proofs.YtpdoepjnkgffpaaDoor
open Go.ChangeShapes Go.WideShapes Go.ChangeAt Go.RowKit Go.Shelf
set_option linter.unusedSimpArgs false
set_option linter.unusedVariables false
set_option maxRecDepth 2000
theorem lt_of_heap {w : World} {b : Nat} {x : Obj} (h : w.heap[b]? = some x) : b < w.heap.size := (Array.getElem?_eq_some_iff.1 h).1
theorem decodeRune_w (s : ByteArray) (w : World) (hT : Lib.Utf8Tabs 0 1 w) :
    Calls Tryd.prog 91 #[.string s] w fun e w' => e = .returned (.tuple #[.int .i32 (Lib.decodeGo s).1, .int .i64 (Lib.decodeGo s).2]) ∧ Below w.heap.size w w' := Any.utf8_DecodeRuneInString Tryd.lays197 s w hT
theorem scompare_w (a b : ByteArray) (w : World) :
    Calls Tryd.prog 90 #[.string a, .string b] w fun e w' => e = .returned (.int .i64 (Lib.compareBytes a.data.toList b.data.toList)) ∧ w' = w := Any.strings_Compare Tryd.lays106 a b w
theorem compareInt_w (x y : Int) (w : World) :
    Calls Tryd.prog 75 #[.int .i64 x, .int .i64 y] w fun e w' => e = .returned (.int .i64 (Lib.compareInt x y)) ∧ w' = w := Any.cmp_Compare_int Tryd.lays122 x y w
theorem isNaNRune_w (x : Int) (w : World) :
    Calls Tryd.prog 104 #[.int .i32 x] w fun e w' => e = .returned (.bool false) ∧ w = w' := by
  go_enter Tryd.func104, Tryd.ntmps104
  go_wp2
  all_goals go_ret
  all_goals (refine ⟨?_, rfl⟩; simp)
theorem compareRune_w (x y : Int) (w : World) :
    Calls Tryd.prog 92 #[.int .i32 x, .int .i32 y] w fun e w' => e = .returned (.int .i64 (cmpZ x y)) ∧ w = w' := by
  obtain ⟨R, hR⟩ : ∃ R, cmpZ x y = R := ⟨_, rfl⟩
  rw [hR]
  unfold cmpZ at hR
  by_cases h1 : x < y
  · rw [if_pos h1] at hR; subst hR
    go_enter Tryd.func92, Tryd.ntmps92
    go_wp2_with (go_at_call 104; refine (isNaNRune_w _ _).mono ?_; rintro e w1 ⟨rfl, rfl⟩)
    all_goals go_ret
    all_goals exact ⟨rfl, rfl⟩
  · rw [if_neg h1] at hR
    by_cases h2 : y < x
    · rw [if_pos h2] at hR; subst hR
      have h3 : ¬ x = y := by omega
      go_enter Tryd.func92, Tryd.ntmps92
      go_wp2_with (go_at_call 104; refine (isNaNRune_w _ _).mono ?_; rintro e w1 ⟨rfl, rfl⟩)
      all_goals go_ret
      all_goals exact ⟨rfl, rfl⟩
    · rw [if_neg h2] at hR; subst hR
      go_enter Tryd.func92, Tryd.ntmps92
      go_wp2_with (go_at_call 104; refine (isNaNRune_w _ _).mono ?_; rintro e w1 ⟨rfl, rfl⟩)
      all_goals go_ret
      all_goals exact ⟨rfl, rfl⟩

def lexZ : List Nat → List Nat → Int
  | [], [] => 0
  | [], _ :: _ => -1
  | _ :: _, [] => 1
  | x :: xs, y :: ys => if x = y then lexZ xs ys else cmpZ (x : Int) (y : Int)
def lessZ (a b : List UInt8) : Int := if Lib.validD a && Lib.validD b then lexZ (sg a) (sg b) else Lib.compareBytes a b

/-- A well-formed text at a place: the sign, its width, and what follows is well-formed. -/
theorem valid_at (s : ByteArray) (pos : Nat) (h : pos < s.size) (hv : Lib.validD (s.data.toList.drop pos) = true) :
    Lib.validD (s.data.toList.drop (pos + (Utf8.decode s pos).2)) = true ∧ (e1 (Utf8.decode s pos).1).length = (Utf8.decode s pos).2 ∧ pos + (Utf8.decode s pos).2 ≤ s.size := by
  have hs : s.data.toList.length = s.size := rfl
  have hne : s.data.toList.drop pos ≠ [] := by
    intro e; have := congrArg List.length e; simp only [List.length_drop, List.length_nil] at this; omega
  have hle := Lib.decodeL_le _ hne
  rw [Lib.validD_step _ hne] at hv
  split at hv
  · cases hv
  · rename_i hb
    have he := Lib.encode_decode _ hne hb
    rw [Lib.decodeL_drop] at hv he hle
    rw [List.drop_drop] at hv
    refine ⟨hv, ?_, ?_⟩
    · unfold e1
      rw [he, List.length_take]
      omega
    · rw [List.length_drop] at hle; omega
theorem decodeGo_tail (s : ByteArray) (pos : Nat) (h : pos < s.size) : Lib.decodeGo (s.extract pos s.size) = Utf8.decode s pos := by
  unfold Lib.decodeGo
  rw [Lib.tail_size, if_neg (by omega), Lib.tail_decode, Nat.add_zero]

set_option maxHeartbeats 2000000 in
theorem less_w (a b : ByteArray) (w : World) (ha : a.size ≤ 1000000) (hb : b.size ≤ 1000000) (hT : Tabs w) :
    Calls Tryd.prog 74 #[.string a, .string b] w fun e w' => e = .returned (.int .i64 (lessZ a.data.toList b.data.toList)) ∧ Below w.heap.size w w' := by
  obtain ⟨R, hR⟩ : ∃ R, lessZ a.data.toList b.data.toList = R := ⟨_, rfl⟩
  rw [hR]
  unfold lessZ at hR
  cases va : Lib.validD a.data.toList with
  | false =>
    rw [va, Bool.false_and, if_neg (by simp)] at hR
    go_enter Tryd.func74, Tryd.ntmps74
    go_wp2_with (go_at_call 89; refine (valid_w _ _ (by omega) hT).mono ?_; rintro e w1 ⟨rfl, b1⟩)
    refine (scompare_w a b _).mono ?_
    rintro e w2 ⟨rfl, rfl⟩
    go_wp2
    go_ret
    exact ⟨by rw [← hR]; rfl, b1⟩
  | true =>
    cases vb : Lib.validD b.data.toList with
    | false =>
      rw [va, vb, Bool.and_false, if_neg (by simp)] at hR
      go_enter Tryd.func74, Tryd.ntmps74
      go_wp2_with fail
      refine (valid_w _ _ (by omega) hT).mono ?_
      rintro e w1 ⟨rfl, b1⟩
      go_wp2_with fail
      refine (valid_w _ _ (by omega) (hT.below b1)).mono ?_
      rintro e w2 ⟨rfl, b2⟩
      go_wp2_with fail
      refine (scompare_w a b _).mono ?_
      rintro e w3 ⟨rfl, rfl⟩
      go_wp2
      go_ret
      exact ⟨by rw [← hR]; rfl, b1.trans (below_le b2 b1.size)⟩
    | true =>
      rw [va, vb, Bool.and_true, if_pos rfl] at hR
      go_enter Tryd.func74, Tryd.ntmps74
      go_wp2_with fail
      refine (valid_w _ _ (by omega) hT).mono ?_
      rintro e w1 ⟨rfl, b1⟩
      go_wp2_with fail
      refine (valid_w _ _ (by omega) (hT.below b1)).mono ?_
      rintro e w2 ⟨rfl, b2⟩
      have B2 : Below w.heap.size w w2 := b1.trans (below_le b2 b1.size)
      have hT2 := (hT.below b1).below b2
      have s2 := B2.size
      clear b1 b2 hT
      go_wp2
      go_loopw [] (fun wr => ∃ (pos : Nat), wr.heap[w2.heap.size]? = some (.stringIter a pos) ∧ Below w2.heap.size w2 wr ∧ pos ≤ a.size ∧ pos ≤ b.size ∧ Hid (Lib.validD (a.data.toList.drop pos) = true) ∧ Hid (Lib.validD (b.data.toList.drop pos) = true) ∧ Hid (lexZ (sg (a.data.toList.drop pos)) (sg (b.data.toList.drop pos)) = R)) (fun wr => a.size - wr.iterPos w2.heap.size)
      case atStart => exact ⟨0, World.iter_heap w2 a 0, (Below.refl _ w2).alloc (Nat.le_refl _) _, by omega, by omega, hid (by simpa using va), hid (by simpa using vb), hid (by simpa using hR)⟩
      case round =>
        obtain ⟨pos, hit, hbw, hpa, hpb, hva, hvb, hH⟩ := hrel
        clear hR va vb
        by_cases hp : pos < a.size
        · have hnx : ∀ ty, (Instr.next (.pointer (some ⟨w2.heap.size, 0, none⟩)) true ty).run Tryd.prog wr = _ := fun ty => Lib.run_next_any_at wr w2.heap.size a pos ty hit hp
          have hwd := Lib.width_pos a pos
          have hit2 := Lib.iterAt_heap wr w2.heap.size a pos (pos + (Utf8.decode a pos).2) hit
          have hbw2 := Lib.below_iterAt hbw (k := w2.heap.size) (Nat.le_refl _) a (pos + (Utf8.decode a pos).2)
          have hst : Hid (sg (a.data.toList.drop pos) = _) := hid (sg_at a pos hp)
          have hA := valid_at a pos hp hva.out
          by_cases hq : pos < b.size
          · have hB := valid_at b pos hq hvb.out
            have hqz : ¬ ((b.size : Int) ≤ (pos : Int)) := by omega
            have hstb : Hid (sg (b.data.toList.drop pos) = _) := hid (sg_at b pos hq)
            have hTr := hT2.below hbw2
            have hdg : Lib.decodeGo (b.extract pos b.size) = Utf8.decode b pos := decodeGo_tail b pos hq
            obtain ⟨x, hx⟩ : ∃ x, (Utf8.decode a pos).1 = x := ⟨_, rfl⟩
            obtain ⟨y, hy⟩ : ∃ y, (Utf8.decode b pos).1 = y := ⟨_, rfl⟩
            rw [hx] at hnx
            by_cases hxy : x = y
            · have hxyz : ((x : Int) == (y : Int)) = true := by simp [hxy]
              go_wp2_with fail
              refine (decodeRune_w _ _ hTr).mono ?_
              rw [hdg, hy]
              rintro e w3 ⟨rfl, b3⟩
              have hit3 : w3.heap[w2.heap.size]? = some (.stringIter a (pos + (Utf8.decode a pos).2)) := (b3.block _ (lt_of_heap hit2)).trans hit2
              have hww : (Utf8.decode a pos).2 = (Utf8.decode b pos).2 := by rw [← hA.2.1, ← hB.2.1, hx, hy, hxy]
              go_wp2
              go_roundw
              case rel =>
                refine ⟨pos + (Utf8.decode a pos).2, hit3, hbw2.trans (below_le b3 (by have := hbw2.size; omega)), hA.2.2, by rw [hww]; exact hB.2.2, hid hA.1, hid (by rw [hww]; exact hB.1), hid ?_⟩
                rw [← hH.out, hst.out, hstb.out, hx, hy, hww]
                rw [lexZ, if_pos hxy]
              case measure =>
                simp only [World.iterPos, hit3, hit]
                omega
            · have hxyz : ((x : Int) == (y : Int)) = false := by simp; omega
              have hres : R = cmpZ (x : Int) (y : Int) := by
                rw [← hH.out, hst.out, hstb.out, hx, hy, lexZ, if_neg hxy]
              go_wp2_with fail
              refine (decodeRune_w _ _ hTr).mono ?_
              rw [hdg, hy]
              rintro e w3 ⟨rfl, b3⟩
              go_wp2_with fail
              refine (compareRune_w _ _ _).mono ?_
              rintro e w4 ⟨rfl, rfl⟩
              go_wp2
              go_ret
              refine ⟨by rw [hres]; rfl, B2.trans (below_le (hbw2.trans (below_le b3 (by have := hbw2.size; omega))) s2)⟩
          · have hqz : (b.size : Int) ≤ (pos : Int) := by omega
            have hres : R = 1 := by
              rw [← hH.out, hst.out, sg_end b pos hq]; rfl
            go_wp2
            go_ret
            exact ⟨by rw [hres]; rfl, B2.trans (below_le hbw2 s2)⟩
        · have hnx : ∀ ty, (Instr.next (.pointer (some ⟨w2.heap.size, 0, none⟩)) true ty).run Tryd.prog wr = _ := fun ty => Lib.run_next_end_at wr w2.heap.size a pos ty hit hp
          have hres : R = Lib.compareInt (a.size : Int) (b.size : Int) := by
            rw [← hH.out, sg_end a pos hp]
            unfold Lib.compareInt
            by_cases hq : pos < b.size
            · rw [sg_at b pos hq, if_pos (by omega)]; rfl
            · rw [sg_end b pos hq, if_neg (by omega), if_neg (by omega)]; rfl
          go_wp2_with fail
          refine (compareInt_w _ _ _).mono ?_
          rintro e w4 ⟨rfl, rfl⟩
          go_wp2
          go_ret
          exact ⟨by rw [hres]; rfl, B2.trans (below_le hbw s2)⟩

theorem order_q (x y : Int) (w : World) :
    Calls Tryd.prog 51 #[.int .i64 x, .int .i64 y] w fun e w' => e = .returned (.int .i64 (cmpZ x y)) ∧ w' = w := order_w x y w
/-- A row of bytes in memory. -/
def RowB (g : Nat) (l : List UInt8) (w : World) : Prop := ∀ j x, l[j]? = some x → w.cell? ⟨g, j, none⟩ = some (.int .u8 (x.toNat : Int))
/-- A row of signs in memory. -/
def RowR (g : Nat) (l : List Nat) (w : World) : Prop := ∀ (j r : Nat), l[j]? = some r → w.cell? ⟨g, j, none⟩ = some (.int .i32 (r : Int))
theorem RowB.below {g : Nat} {l : List UInt8} {w w' : World} (h : RowB g l w) (hb : Below w.heap.size w w') : RowB g l w' := fun j x hx =>
  (hb.cell (World.block_lt_of_cell? _ _ (h j x hx))).trans (h j x hx)
theorem RowR.below {g : Nat} {l : List Nat} {w w' : World} (h : RowR g l w) (hb : Below w.heap.size w w') : RowR g l w' := fun j x hx =>
  (hb.cell (World.block_lt_of_cell? _ _ (h j x hx))).trans (h j x hx)

theorem cmp_step (x y : UInt8) (s t : List UInt8) (h : x ≠ y) : Lib.compareBytes (x :: s) (y :: t) = cmpZ (x.toNat : Int) (y.toNat : Int) := by
  unfold Lib.compareBytes cmpZ
  simp only [UInt8.lt_iff_toNat_lt]
  have : x.toNat ≠ y.toNat := fun e => h (UInt8.toNat_inj.1 e)
  by_cases h1 : x.toNat < y.toNat
  · rw [if_pos h1, if_pos (by omega)]
  · rw [if_neg h1, if_pos (by omega), if_neg (by omega), if_pos (by omega)]
theorem cmp_same (x : UInt8) (s t : List UInt8) : Lib.compareBytes (x :: s) (x :: t) = Lib.compareBytes s t := by
  rw [Lib.compareBytes]; simp [UInt8.lt_iff_toNat_lt]

set_option maxHeartbeats 2000000 in
theorem bytewise_w (ga gb ca cb : Nat) (a b : List UInt8) (w : World) (ha : a.length ≤ 1000000) (hb : b.length ≤ 1000000) (hra : RowB ga a w) (hrb : RowB gb b w) :
    Calls Tryd.prog 54 #[.slice (some ⟨ga, 0, none⟩) a.length ca, .slice (some ⟨gb, 0, none⟩) b.length cb] w fun e w' => e = .returned (.int .i64 (Lib.compareBytes a b)) ∧ Below w.heap.size w w' := by
  obtain ⟨R, hR⟩ : ∃ R, Lib.compareBytes a b = R := ⟨_, rfl⟩
  rw [hR]
  go_enter Tryd.func54, Tryd.ntmps54
  go_wp2
  go_loopw [5] (fun i wr => ∃ k : Nat, i = .int .i64 (k : Int) ∧ k ≤ a.length ∧ k ≤ b.length ∧ Below w.heap.size w wr ∧ Hid (Lib.compareBytes (a.drop k) (b.drop k) = R)) (fun i _ => a.length - (intOf i).toNat)
  case atStart => exact ⟨0, rfl, by omega, by omega, Below.refl _ _, hid (by simpa using hR)⟩
  case round =>
    obtain ⟨k, rfl, hka, hkb, hbw, hH⟩ := hrel
    clear hR
    have ra := hra.below hbw
    have rb := hrb.below hbw
    by_cases h1 : k < a.length
    · have h1z : (k : Int) < (a.length : Int) := by omega
      by_cases h2 : k < b.length
      · have h2z : (k : Int) < (b.length : Int) := by omega
        obtain ⟨x, hx⟩ : ∃ x, a[k]? = some x := ⟨a[k], by simp [h1]⟩
        obtain ⟨y, hy⟩ : ∃ y, b[k]? = some y := ⟨b[k], by simp [h2]⟩
        have cx := ra k x hx
        have cy := rb k y hy
        have da : Hid (a.drop k = x :: a.drop (k + 1)) := hid (by rw [List.drop_eq_getElem_cons h1]; congr 1; simpa [h1] using hx)
        have db : Hid (b.drop k = y :: b.drop (k + 1)) := hid (by rw [List.drop_eq_getElem_cons h2]; congr 1; simpa [h2] using hy)
        clear ra rb
        by_cases hxy : x = y
        · subst hxy
          go_wp2
          go_quiet (fail)
          go_wp2
          go_roundw
          case rel =>
            refine ⟨k + 1, by go_num, by omega, by omega, below_drewNv hbw _, hid ?_⟩
            rw [← hH.out, da.out, db.out, cmp_same]
          case measure => simp [intOf]; omega
        · have hxz : ((x.toNat : Int) == (y.toNat : Int)) = false := by
            simp only [beq_eq_false_iff_ne, ne_eq]
            intro e; exact hxy (UInt8.toNat_inj.1 (by omega))
          have hwx : IntKind.i64.wrap (x.toNat : Int) = (x.toNat : Int) := by have := x.toNat_lt; rw [IntKind.wrap_i64]; omega
          have hwy : IntKind.i64.wrap (y.toNat : Int) = (y.toNat : Int) := by have := y.toNat_lt; rw [IntKind.wrap_i64]; omega
          have hres : R = cmpZ (x.toNat : Int) (y.toNat : Int) := by rw [← hH.out, da.out, db.out, cmp_step x y _ _ hxy]
          go_wp2
          go_quiet (fail)
          have hbw' := below_drewNv hbw nq
          have cx' := hra.below hbw' k x hx
          have cy' := hrb.below hbw' k y hy
          clear cx cy hbw
          generalize wr.drewN nq = wq at *
          go_wp2
          go_quiet ((go_at_call 51; exact Calls.quiet_of_same (order_q _ _ _)))
          go_wp2
          go_ret
          exact ⟨by rw [hres]; rfl, below_drewNv hbw' _⟩
      · have h2z : ¬ (k : Int) < (b.length : Int) := by omega
        have hres : R = cmpZ (a.length : Int) (b.length : Int) := by
          rw [← hH.out, List.drop_eq_getElem_cons h1, show b.drop k = [] from List.drop_eq_nil_of_le (by omega)]
          unfold cmpZ; rw [if_neg (by omega), if_pos (by omega)]; rfl
        go_wp2_with fail
        refine (order_q _ _ _).mono ?_
        rintro e w1 ⟨rfl, rfl⟩
        go_wp2
        go_ret
        exact ⟨by rw [hres]; rfl, hbw⟩
    · have h1z : ¬ (k : Int) < (a.length : Int) := by omega
      have hres : R = cmpZ (a.length : Int) (b.length : Int) := by
        rw [← hH.out, List.drop_eq_nil_of_le (by omega)]
        unfold cmpZ
        by_cases h2 : k < b.length
        · rw [List.drop_eq_getElem_cons h2, if_pos (by omega)]; rfl
        · rw [List.drop_eq_nil_of_le (by omega), if_neg (by omega), if_neg (by omega)]; rfl
      go_wp2_with fail
      refine (order_q _ _ _).mono ?_
      rintro e w1 ⟨rfl, rfl⟩
      go_wp2
      go_ret
      exact ⟨by rw [hres]; rfl, hbw⟩

/-! ### texts turned into rows -/
theorem runesFrom_eq (s : ByteArray) : ∀ (bound i : Nat) (acc : Array Value), s.size ≤ i + bound → Conv.runesFrom s bound i acc = acc ++ ((sg (s.data.toList.drop i)).map fun (r : Nat) => Value.int .i32 (r : Int)).toArray
  | 0, i, acc, h => by
    rw [Conv.runesFrom, sg_end s i (by omega)]; simp
  | b + 1, i, acc, h => by
    rw [Conv.runesFrom]
    by_cases hp : i < s.size
    · have hw := Lib.width_pos s i
      rw [if_pos hp, sg_at s i hp]
      obtain ⟨⟨r, k⟩, hd⟩ : ∃ d, Utf8.decode s i = d := ⟨_, rfl⟩
      rw [hd] at hw ⊢
      have ih := runesFrom_eq s b (i + k) (acc.push (.int .i32 (r : Int))) (by simp only [] at hw; omega)
      simp only [List.map_cons]
      show Conv.runesFrom s b (i + k) (acc.push (.int .i32 (r : Int))) = _
      rw [ih]
      simp
    · rw [if_neg hp, sg_end s i hp]; simp
theorem runes_conv (s : ByteArray) (w : World) (hs : s.size ≤ 1000000) :
    ∃ cap W, (convert 9 87 (.string s)).run Tryd.prog w = .ok (.slice (some ⟨w.heap.size, 0, none⟩) (sg s.data.toList).length cap) W ∧ Below w.heap.size w W ∧ RowR w.heap.size (sg s.data.toList) W ∧ W.heap.size = w.heap.size + 1 := by
  have e : Conv.runesFrom s s.size 0 #[] = ((sg s.data.toList).map fun (r : Nat) => Value.int .i32 (r : Int)).toArray := by
    rw [runesFrom_eq s s.size 0 #[] (by omega)]; simp
  have hle := sg_le s.data.toList
  have hsz : s.data.toList.length = s.size := rfl
  have hr := run_runes_of_string (P := Tryd.prog) w 9 87 21 s Tryd.underlying9 Tryd.underlying87 Tryd.underlying21 (by rw [e]; simp; omega)
  rw [e] at hr
  simp only [List.size_toArray, List.length_map] at hr
  refine ⟨_, _, hr, ((Below.refl _ w).drew).alloc (Nat.le_refl _) _, ?_, by simp⟩
  intro j r hj
  rw [show ∀ o : Obj, (w.drew.alloc o).cell? ⟨w.heap.size, j, none⟩ = (w.drew.alloc o).cell? ⟨w.drew.heap.size, j, none⟩ from fun _ => rfl, Lib.cell_of_heap (Go.heap_alloc_new w.drew _)]
  have hjl : j < (sg s.data.toList).length := (List.getElem?_eq_some_iff.1 hj).1
  rw [Array.getElem?_append_left (by simpa using hjl)]
  simp [hj]
theorem bytes_conv (s : ByteArray) (w : World) :
    ∃ cap W, (convert 9 29 (.string s)).run Tryd.prog w = .ok (.slice (some ⟨w.heap.size, 0, none⟩) s.data.toList.length cap) W ∧ Below w.heap.size w W ∧ RowB w.heap.size s.data.toList W ∧ W.heap.size = w.heap.size + 1 := by
  have hr := run_bytes_of_string (P := Tryd.prog) w 9 29 5 s Tryd.underlying9 Tryd.underlying29 Tryd.underlying5
  refine ⟨_, _, hr, ((Below.refl _ w).drew).alloc (Nat.le_refl _) _, ?_, by simp⟩
  intro j x hx
  rw [show ∀ o : Obj, (w.drew.alloc o).cell? ⟨w.heap.size, j, none⟩ = (w.drew.alloc o).cell? ⟨w.drew.heap.size, j, none⟩ from fun _ => rfl, Lib.cell_of_heap (Go.heap_alloc_new w.drew _)]
  obtain ⟨hjl, hjx⟩ := List.getElem?_eq_some_iff.1 hx
  rw [bytesRow_at s _ j (by simpa using hjl)]
  subst hjx
  simp

set_option maxHeartbeats 4000000 in
set_option maxRecDepth 8000 in
theorem rless_w (a b : ByteArray) (w : World) (ha : a.size ≤ 1000000) (hb : b.size ≤ 1000000) (hT : Tabs w) :
    Calls Tryd.prog 53 #[.string a, .string b] w fun e w' => e = .returned (.int .i64 (lessZ a.data.toList b.data.toList)) ∧ Below w.heap.size w w' := by
  obtain ⟨R, hR⟩ : ∃ R, lessZ a.data.toList b.data.toList = R := ⟨_, rfl⟩
  rw [hR]
  unfold lessZ at hR
  have la := sg_le a.data.toList
  have lb := sg_le b.data.toList
  have za : a.data.toList.length = a.size := rfl
  have zb : b.data.toList.length = b.size := rfl
  cases va : Lib.validD a.data.toList with
  | false =>
    rw [va, Bool.false_and, if_neg (by simp)] at hR
    go_enter Tryd.func53, Tryd.ntmps53
    go_wp2_with fail
    refine (rvalid_w _ _ (by omega) hT).mono ?_
    rintro e w1 ⟨rfl, b1⟩
    obtain ⟨ca, W1, k1, B1, r1, z1⟩ := bytes_conv a w1
    obtain ⟨cb, W2, k2, B2, r2, z2⟩ := bytes_conv b W1
    have B1' : Below w.heap.size w W1 := b1.trans (below_le B1 b1.size)
    have B2' : Below w.heap.size w W2 := B1'.trans (below_le B2 B1'.size)
    have r1' := r1.below (below_le B2 (Nat.le_refl _))
    have s1 := b1.size
    have r2z : RowB (w1.heap.size + 1) b.data.toList W2 := by rw [← z1]; exact r2
    go_wp2_with fail
    refine (bytewise_w w1.heap.size (w1.heap.size + 1) ca cb a.data.toList b.data.toList W2 (by omega) (by omega) r1' r2z).mono ?_
    rintro e w3 ⟨rfl, b3⟩
    go_wp2
    go_ret
    exact ⟨by rw [← hR]; rfl, B2'.trans (below_le b3 B2'.size)⟩
  | true =>
    cases vb : Lib.validD b.data.toList with
    | false =>
      rw [va, vb, Bool.and_false, if_neg (by simp)] at hR
      go_enter Tryd.func53, Tryd.ntmps53
      go_wp2_with fail
      refine (rvalid_w _ _ (by omega) hT).mono ?_
      rintro e w0 ⟨rfl, b0⟩
      go_wp2_with fail
      refine (rvalid_w _ _ (by omega) (hT.below b0)).mono ?_
      rintro e w1 ⟨rfl, b1'⟩
      have b1 : Below w.heap.size w w1 := b0.trans (below_le b1' b0.size)
      obtain ⟨ca, W1, k1, B1, r1, z1⟩ := bytes_conv a w1
      obtain ⟨cb, W2, k2, B2, r2, z2⟩ := bytes_conv b W1
      have B1' : Below w.heap.size w W1 := b1.trans (below_le B1 b1.size)
      have B2' : Below w.heap.size w W2 := B1'.trans (below_le B2 B1'.size)
      have r1' := r1.below (below_le B2 (Nat.le_refl _))
      have s1 := b1.size
      have r2z : RowB (w1.heap.size + 1) b.data.toList W2 := by rw [← z1]; exact r2
      go_wp2_with fail
      refine (bytewise_w w1.heap.size (w1.heap.size + 1) ca cb a.data.toList b.data.toList W2 (by omega) (by omega) r1' r2z).mono ?_
      rintro e w3 ⟨rfl, b3⟩
      go_wp2
      go_ret
      exact ⟨by rw [← hR]; rfl, B2'.trans (below_le b3 B2'.size)⟩
    | true =>
      rw [va, vb, Bool.and_true, if_pos rfl] at hR
      have hpa : ∀ r ∈ sg a.data.toList, r ≤ 1114111 := fun r hr => by have := okRs_sg a.data.toList r hr; unfold okR at this; omega
      have hpb : ∀ r ∈ sg b.data.toList, r ≤ 1114111 := fun r hr => by have := okRs_sg b.data.toList r hr; unfold okR at this; omega
      go_enter Tryd.func53, Tryd.ntmps53
      go_wp2_with fail
      refine (rvalid_w _ _ (by omega) hT).mono ?_
      rintro e w0 ⟨rfl, b0⟩
      go_wp2_with fail
      refine (rvalid_w _ _ (by omega) (hT.below b0)).mono ?_
      rintro e w1 ⟨rfl, b1'⟩
      have b1 : Below w.heap.size w w1 := b0.trans (below_le b1' b0.size)
      obtain ⟨ca, W1, k1, B1, r1, z1⟩ := runes_conv a w1 ha
      obtain ⟨cb, W2, k2, B2, r2, z2⟩ := runes_conv b W1 hb
      have B1' : Below w.heap.size w W1 := b1.trans (below_le B1 b1.size)
      have B2' : Below w.heap.size w W2 := B1'.trans (below_le B2 B1'.size)
      have r1' := r1.below (below_le B2 (Nat.le_refl _))
      have s1 := b1.size
      have r2z : RowR (w1.heap.size + 1) (sg b.data.toList) W2 := by rw [← z1]; exact r2
      clear r1 r2 B1 B2 b1' b0
      generalize sg a.data.toList = X at *
      generalize sg b.data.toList = Y at *
      go_wp2
      go_loopw [7] (fun i wr => ∃ k : Nat, i = .int .i64 (k : Int) ∧ k ≤ X.length ∧ k ≤ Y.length ∧ Below W2.heap.size W2 wr ∧ Hid (lexZ (X.drop k) (Y.drop k) = R)) (fun i _ => X.length - (intOf i).toNat)
      case atStart => exact ⟨0, rfl, by omega, by omega, Below.refl _ _, hid (by simpa using hR)⟩
      case round =>
        obtain ⟨k, rfl, hka, hkb, hbw, hH⟩ := hrel
        clear hR va vb
        have ra := r1'.below hbw
        have rb := r2z.below hbw
        by_cases h1 : k < X.length
        · have h1z : (k : Int) < (X.length : Int) := by omega
          by_cases h2 : k < Y.length
          · have h2z : (k : Int) < (Y.length : Int) := by omega
            obtain ⟨x, hx⟩ : ∃ x, X[k]? = some x := ⟨X[k], by simp [h1]⟩
            obtain ⟨y, hy⟩ : ∃ y, Y[k]? = some y := ⟨Y[k], by simp [h2]⟩
            have cx := ra k x hx
            have cy := rb k y hy
            have mx := hpa x (List.mem_of_getElem? hx)
            have my := hpb y (List.mem_of_getElem? hy)
            have da : Hid (X.drop k = x :: X.drop (k + 1)) := hid (by rw [List.drop_eq_getElem_cons h1]; congr 1; simpa [h1] using hx)
            have db : Hid (Y.drop k = y :: Y.drop (k + 1)) := hid (by rw [List.drop_eq_getElem_cons h2]; congr 1; simpa [h2] using hy)
            clear ra rb
            by_cases hxy : x = y
            · subst hxy
              go_wp2
              go_quiet (fail)
              go_wp2
              go_roundw
              case rel =>
                refine ⟨k + 1, by go_num, by omega, by omega, below_drewNv hbw _, hid ?_⟩
                rw [← hH.out, da.out, db.out, lexZ, if_pos rfl]
              case measure => simp [intOf]; omega
            · have hxz : ((x : Int) == (y : Int)) = false := by
                simp only [beq_eq_false_iff_ne, ne_eq]; omega
              have hwx : IntKind.i64.wrap (x : Int) = (x : Int) := by rw [IntKind.wrap_i64]; omega
              have hwy : IntKind.i64.wrap (y : Int) = (y : Int) := by rw [IntKind.wrap_i64]; omega
              have hres : R = cmpZ (x : Int) (y : Int) := by rw [← hH.out, da.out, db.out, lexZ, if_neg hxy]
              go_wp2
              go_quiet (fail)
              have hbw' := below_drewNv hbw nq
              have cx' := r1'.below hbw' k x hx
              have cy' := r2z.below hbw' k y hy
              clear cx cy hbw
              generalize wr.drewN nq = wq at *
              go_wp2
              go_quiet ((go_at_call 51; exact Calls.quiet_of_same (order_q _ _ _)))
              go_wp2
              go_ret
              exact ⟨by rw [hres]; rfl, B2'.trans (below_le (below_drewNv hbw' _) B2'.size)⟩
          · have h2z : ¬ (k : Int) < (Y.length : Int) := by omega
            have hres : R = cmpZ (X.length : Int) (Y.length : Int) := by
              rw [← hH.out, List.drop_eq_getElem_cons h1, show Y.drop k = [] from List.drop_eq_nil_of_le (by omega)]
              unfold cmpZ; rw [if_neg (by omega), if_pos (by omega)]; rfl
            go_wp2_with fail
            refine (order_q _ _ _).mono ?_
            rintro e w1 ⟨rfl, rfl⟩
            go_wp2
            go_ret
            exact ⟨by rw [hres]; rfl, B2'.trans (below_le hbw B2'.size)⟩
        · have h1z : ¬ (k : Int) < (X.length : Int) := by omega
          have hres : R = cmpZ (X.length : Int) (Y.length : Int) := by
            rw [← hH.out, show X.drop k = [] from List.drop_eq_nil_of_le (by omega)]
            unfold cmpZ
            by_cases h2 : k < Y.length
            · rw [List.drop_eq_getElem_cons h2, if_pos (by omega)]; rfl
            · rw [List.drop_eq_nil_of_le (by omega), if_neg (by omega), if_neg (by omega)]; rfl
          go_wp2_with fail
          refine (order_q _ _ _).mono ?_
          rintro e w1 ⟨rfl, rfl⟩
          go_wp2
          go_ret
          exact ⟨by rw [hres]; rfl, B2'.trans (below_le hbw B2'.size)⟩
end Go.Proofs.YtpdoepjnkgffpaaDoor
