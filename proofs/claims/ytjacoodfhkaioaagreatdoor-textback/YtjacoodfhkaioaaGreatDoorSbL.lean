/- Texts of mine, one behind the other: TextRd1, TextRd2, BigGrown, BigParse, TextRd3, TextRd4, TextRd5. -/
import Derived.Test.YtjacoodfhkaioaaGreatDoorSbK
import Derived.Test.YtjacoodfhkaioaaGreatDoorSbJ
import Derived.Lib.TrimUEq
import Derived.Lib.TrimAscii
import Derived.WalkKit
import Derived.Test.YtjacoodfhkaioaaGreatDoorSbC
import Derived.ChangeMaps5
import Derived.Test.YtjacoodfhkaioaaGreatDoorSbD
import Derived.Test.YtjacoodfhkaioaaGreatDoorSbA
import Derived.Lib.OthersKept
import Derived.Laws.RangeString
import Derived.Laws.RangeAny
import Derived.Test.YtjacoodfhkaioaaGreatDoorSbF
import Derived.Test.YtjacoodfhkaioaaGreatDoorSbI
import Derived.Test.YtjacoodfhkaioaaGreatDoorSbH
namespace Go.Proofs.YtjacoodfhkaioaaGreatDoor
open Go.ChangeShapes Go.WideShapes Go.ChangeAt Go.RowKit Go.Shelf
set_option linter.unusedSimpArgs false
set_option linter.unusedVariables false
set_option maxRecDepth 2000

/-- all blocks that were there are as they were, but those of F -/
structure Kpt (F : Nat → Prop) (w w' : World) : Prop where
  os : w'.os = w.os
  tape : w'.tape = w.tape
  output : w'.output = w.output
  size : w.heap.size ≤ w'.heap.size
  block : ∀ k, k < w.heap.size → ¬ F k → w'.heap[k]? = w.heap[k]?
theorem Kpt.refl (F : Nat → Prop) (w : World) : Kpt F w w := ⟨rfl, rfl, rfl, Nat.le_refl _, fun _ _ _ => rfl⟩
theorem Kpt.trans {F : Nat → Prop} {a b c : World} (h : Kpt F a b) (k : Kpt F b c) : Kpt F a c :=
  ⟨k.os.trans h.os, k.tape.trans h.tape, k.output.trans h.output, Nat.le_trans h.size k.size, fun i hi hn => (k.block i (Nat.lt_of_lt_of_le hi h.size) hn).trans (h.block i hi hn)⟩
theorem Kpt.mono {F G : Nat → Prop} {w w' : World} (h : Kpt F w w') (hF : ∀ k, F k → G k) : Kpt G w w' := ⟨h.os, h.tape, h.output, h.size, fun k hk hn => h.block k hk (fun hf => hn (hF k hf))⟩
theorem Kpt.of_below {F : Nat → Prop} {w w' : World} (h : Below w.heap.size w w') : Kpt F w w' := ⟨h.os, h.tape, h.output, h.size, fun k hk _ => h.block k hk⟩
theorem Kpt.of_set {F : Nat → Prop} (w : World) {p : Addr} (hp : F p.block) (u : Value) : Kpt F w (w.setCell p u) :=
  ⟨rfl, rfl, rfl, by simp, fun k _ hn => Below.heap_setCell w p u k (fun e => hn (e ▸ hp))⟩
theorem Kpt.below {F : Nat → Prop} {B : Nat} {w w' : World} (h : Kpt F w w') (hB : B ≤ w.heap.size) (hF : ∀ k, F k → B ≤ k) : Below B w w' :=
  ⟨h.os, h.tape, h.output, h.size, fun k hk => h.block k (by omega) (fun hf => by have := hF k hf; omega)⟩
/-- the reader: what is not read yet, and what is open -/
structure Rdr (g : Nat) (r : List UInt8) (ov : Value) (w : World) : Prop where
  at_ : w.heap[g]? = some (.cells #[.string (bs r), ov] 53 (0, 0))
theorem Rdr.cells {g : Nat} {r : List UInt8} {ov : Value} {w : World} (h : Rdr g r ov w) : w.cell? ⟨g, 0, none⟩ = some (.string (bs r)) ∧ w.cell? ⟨g, 1, none⟩ = some ov ∧ w.frozen? ⟨g, 0, none⟩ = false ∧ w.frozen? ⟨g, 1, none⟩ = false := by
  have := h.at_
  simp [World.cell?, World.frozen?, this]
theorem Rdr.lt {g : Nat} {r : List UInt8} {ov : Value} {w : World} (h : Rdr g r ov w) : g < w.heap.size := (Array.getElem?_eq_some_iff.1 h.at_).1
theorem Rdr.below {g : Nat} {r : List UInt8} {ov : Value} {w w' : World} (h : Rdr g r ov w) (hb : Below w.heap.size w w') : Rdr g r ov w' := ⟨(hb.block g h.lt).trans h.at_⟩
theorem Rdr.set0 {g : Nat} {r : List UInt8} {ov : Value} {w : World} (h : Rdr g r ov w) (r' : List UInt8) : Rdr g r' ov (w.setCell ⟨g, 0, none⟩ (.string (bs r'))) := by
  refine ⟨?_⟩
  have := h.at_
  simp [World.setCell, Array.getElem?_modify, this]
theorem dec_hi (b : UInt8) (t : List UInt8) (h : ¬ b.toNat < 128) : 128 ≤ (Lib.decodeL (b :: t)).1 := by
  rw [Lib.decodeL_N]
  show 128 ≤ (Lib.decodeN _ b.toNat _ _ _).1
  unfold Lib.decodeN
  rw [if_neg h]
  repeat' split
  all_goals (simp only []; omega)
theorem decGo_nil : Lib.decodeGo (bs []) = (65533, 0) := rfl
theorem decGo_cons (b : UInt8) (t : List UInt8) : Lib.decodeGo (bs (b :: t)) = Lib.decodeL (b :: t) := by
  unfold Lib.decodeGo
  rw [if_neg (by rw [bs_size]; simp)]
  exact (Lib.decodeL_drop (bs (b :: t)) 0).symm
/-- the next sign is an ASCII one just if the next byte is -/
theorem dec_is (r : List UInt8) (c : UInt8) (hc : c.toNat < 128) : ((Lib.decodeGo (bs r)).1 = c.toNat) ↔ r.head? = some c := by
  cases r with
  | nil => rw [decGo_nil]; simp; omega
  | cons b t =>
    rw [decGo_cons]
    by_cases hb : b.toNat < 128
    · rw [Lib.decodeL_ascii b t hb]
      simp only [List.head?_cons, Option.some.injEq]
      exact ⟨fun h => UInt8.toNat_inj.1 h, fun h => by rw [h]⟩
    · have := dec_hi b t hb
      simp only [List.head?_cons, Option.some.injEq]
      exact ⟨fun h => by omega, fun h => by rw [h] at hb; omega⟩
theorem dec_one (r : List UInt8) (c : UInt8) (hc : c.toNat < 128) (h : r.head? = some c) : (Lib.decodeGo (bs r)).2 = 1 := by
  cases r with
  | nil => simp at h
  | cons b t =>
    simp only [List.head?_cons, Option.some.injEq] at h
    subst h
    rw [decGo_cons, Lib.decodeL_ascii b t hc]
/-- skip, of an ASCII sign -/
def skB (c : UInt8) (r : List UInt8) : Bool := r.head? == some c
def skR (c : UInt8) (r : List UInt8) : List UInt8 := if r.head? = some c then r.tail else r
set_option maxHeartbeats 1000000 in
theorem skip_w (g : Nat) (r : List UInt8) (ov : Value) (c : UInt8) (k : Int) (hk : k = (c.toNat : Int)) (hc : c.toNat < 128) (w : World) (h : Rdr g r ov w) (hT : Tabs w) :
    Calls Tryz.prog 61 #[.pointer (some ⟨g, 0, none⟩), .int .i32 k] w fun e w' => e = .returned (.bool (skB c r)) ∧ Rdr g (skR c r) ov w' ∧ Kpt (fun b => b = g) w w' := by
  subst hk
  have c1 := decodeRune_w (bs r) w hT
  obtain ⟨x, hx⟩ : ∃ x, (Lib.decodeGo (bs r)).1 = x := ⟨_, rfl⟩
  obtain ⟨n, hn⟩ : ∃ n, (Lib.decodeGo (bs r)).2 = n := ⟨_, rfl⟩
  have his := dec_is r c hc
  have hone := dec_one r c hc
  rw [hx, hn] at c1
  rw [hx] at his
  rw [hn] at hone
  obtain ⟨y0, y1, f0, f1⟩ := h.cells
  have hH := hid h
  clear h hT hx hn
  by_cases hcx : x = c.toNat
  · have hr := his.1 hcx
    have hb : skB c r = true := by unfold skB; simp [hr]
    have hq : skR c r = r.tail := by unfold skR; rw [if_pos hr]
    rw [hb, hq]
    have h1 := hone hr
    subst h1
    have hne : ((x : Int) != (c.toNat : Int)) = false := by simp [hcx]
    clear his hone hb hq
    have hrn : 1 ≤ (bs r).size := by
      rw [bs_size]
      cases r with
      | nil => simp at hr
      | cons b t => simp
    have hrz : (1 : Int) ≤ ((bs r).size : Int) := by omega
    have hex : (bs r).extract 1 (bs r).size = bs r.tail := by
      cases r with
      | nil => simp at hr
      | cons b t =>
        apply ByteArray.ext
        rw [bs_size]
        simp [bs]
    go_enter Tryz.func61, Tryz.ntmps61
    go_wp2_with fail
    refine c1.mono ?_
    rintro e w1 ⟨rfl, b1⟩
    have h1 := hH.out.below b1
    obtain ⟨z0, z1, g0, g1⟩ := h1.cells
    have hK := hid ((Kpt.of_below (F := fun b => b = g) b1).trans (Kpt.of_set (F := fun b => b = g) w1 (p := ⟨g, 0, none⟩) rfl (.string (bs r.tail))))
    have hR := hid (h1.set0 r.tail)
    clear h1
    go_wp2
    go_ret
    exact ⟨rfl, hR.out, hK.out⟩
  · have hr : ¬ r.head? = some c := fun h => hcx (his.2 h)
    have hb : skB c r = false := by unfold skB; simp [hr]
    have hq : skR c r = r := by unfold skR; rw [if_neg hr]
    rw [hb, hq]
    have hne : ((x : Int) != (c.toNat : Int)) = true := by
      have : (x : Int) ≠ (c.toNat : Int) := by omega
      simp [this]
    clear his hone hb hq hr hcx
    go_enter Tryz.func61, Tryz.ntmps61
    go_wp2_with fail
    refine c1.mono ?_
    rintro e w1 ⟨rfl, b1⟩
    have hR := hid (hH.out.below b1)
    have hK := hid (Kpt.of_below (F := fun b => b = g) b1)
    go_wp2
    go_ret
    exact ⟨rfl, hR.out, hK.out⟩
def digB (x : UInt8) : Bool := decide (48 ≤ x.toNat) && decide (x.toNat ≤ 57)
end Go.Proofs.YtjacoodfhkaioaaGreatDoor
namespace Go.Proofs.YtjacoodfhkaioaaGreatDoor
open Go.ChangeShapes Go.WideShapes Go.ChangeAt Go.RowKit Go.Shelf
set_option linter.unusedSimpArgs false
set_option linter.unusedVariables false
set_option maxRecDepth 2000

def digX (x : Nat) : Bool := decide (48 ≤ x) && decide (x ≤ 57)
theorem tdigit_w (x : Nat) (w : World) : Calls Tryz.prog 69 #[.int .i32 (x : Int)] w fun e w' => e = .returned (.bool (digX x)) ∧ w' = w := by
  go_enter Tryz.func69, Tryz.ntmps69
  go_wp2
  all_goals go_ret
  all_goals (refine ⟨?_, rfl⟩; first | (simp [digX]; done) | (simp [digX]; omega) | (simp [digX]; rw [Bool.eq_iff_iff]; simp; omega))
theorem bs_list (r : List UInt8) : (bs r).data.toList = r := by simp [bs]
theorem dec_at {r : List UInt8} {pos : Nat} {b : UInt8} (h : r[pos]? = some b) : digX (Utf8.decode (bs r) pos).1 = digB b ∧ (digB b = true → (Utf8.decode (bs r) pos).2 = 1) := by
  have hj := (List.getElem?_eq_some_iff.1 h).1
  have hd : r.drop pos = b :: r.drop (pos + 1) := by
    rw [List.drop_eq_getElem_cons hj]
    rw [List.getElem?_eq_getElem hj] at h
    injection h with h
    rw [h]
  have e : Utf8.decode (bs r) pos = Lib.decodeL (b :: r.drop (pos + 1)) := by rw [← Lib.decodeL_drop, bs_list, hd]
  rw [e]
  by_cases hb : b.toNat < 128
  · rw [Lib.decodeL_ascii _ _ hb]
    exact ⟨rfl, fun _ => rfl⟩
  · have := dec_hi b (r.drop (pos + 1)) hb
    have h1 : digB b = false := by simp [digB]; omega
    refine ⟨?_, fun h => by rw [h1] at h; cases h⟩
    rw [h1]
    simp [digX]; omega
theorem tw_at {r : List UInt8} {pos : Nat} (h : (r.take pos).all digB = true) (hn : ∀ b, r[pos]? = some b → digB b = false) : r.takeWhile digB = r.take pos ∧ r.dropWhile digB = r.drop pos := by
  induction r generalizing pos with
  | nil => simp
  | cons x t ih =>
    cases pos with
    | zero =>
      have := hn x rfl
      simp [List.takeWhile, List.dropWhile, this]
    | succ pos =>
      simp only [List.take_succ_cons, List.all_cons, Bool.and_eq_true] at h
      have := ih h.2 (fun b hb => hn b (by simpa using hb))
      simp [List.takeWhile, List.dropWhile, h.1, this]
theorem ex_take (r : List UInt8) (n : Nat) : (bs r).extract 0 n = bs (r.take n) := by
  apply ByteArray.ext
  simp [bs]
theorem ex_drop (r : List UInt8) (n : Nat) : (bs r).extract n (bs r).size = bs (r.drop n) := by
  apply ByteArray.ext
  rw [bs_size]
  simp [bs]
  exact List.take_of_length_le (by simp)
set_option maxHeartbeats 2000000 in
theorem digits_w (g : Nat) (r : List UInt8) (ov : Value) (w : World) (hr : r.length ≤ 1000000) (h : Rdr g r ov w) :
    Calls Tryz.prog 104 #[.pointer (some ⟨g, 0, none⟩)] w fun e w' => e = .returned (.string (bs (r.takeWhile digB))) ∧ Rdr g (r.dropWhile digB) ov w' ∧ Kpt (fun b => b = g) w w' := by
  obtain ⟨A, hA⟩ : ∃ A, bs (r.takeWhile digB) = A := ⟨_, rfl⟩
  obtain ⟨B, hB⟩ : ∃ B, r.dropWhile digB = B := ⟨_, rfl⟩
  rw [hA, hB]
  have hAH := hid hA
  have hBH := hid hB
  obtain ⟨y0, y1, f0, f1⟩ := h.cells
  have hH := hid h
  have hsz : (bs r).size = r.length := bs_size r
  have hszH := hid hsz
  have hz0 : ((bs r).size : Int) ≤ 1000000 := by omega
  have hg := h.lt
  clear h hA hB hsz
  go_enter Tryz.func104, Tryz.ntmps104
  go_wp2
  go_loopw [3] (fun sz wr => ∃ (pos : Nat), sz = .int .i64 ((bs r).size : Int) ∧ wr.heap[w.heap.size]? = some (.stringIter (bs r) pos) ∧ Below w.heap.size w wr ∧ Hid ((r.take pos).all digB = true)) (fun _ wr => (bs r).size - wr.iterPos w.heap.size)
  case atStart => exact ⟨0, rfl, (iter_fresh (Below.refl _ w) (bs r)).1, (iter_fresh (Below.refl _ w) (bs r)).2, hid (by simp)⟩
  case round =>
    obtain ⟨pos, rfl, hit, hbw, hP⟩ := hrel
    have hRw := hH.out.below hbw
    clear y0 y1 f0 f1
    obtain ⟨y0, y1, f0, f1⟩ := hRw.cells
    by_cases hp : pos < (bs r).size
    · have hnx : ∀ ty, (Instr.next (.pointer (some ⟨w.heap.size, 0, none⟩)) true ty).run Tryz.prog wr = _ := fun ty => Lib.run_next_any_at wr w.heap.size (bs r) pos ty hit hp
      have hwd := Lib.width_pos (bs r) pos
      have hit2 := Lib.iterAt_heap wr w.heap.size (bs r) pos (pos + (Utf8.decode (bs r) pos).2) hit
      have hbw2 := Lib.below_iterAt hbw (k := w.heap.size) (Nat.le_refl _) (bs r) (pos + (Utf8.decode (bs r) pos).2)
      obtain ⟨b, hb⟩ : ∃ b, r[pos]? = some b := ⟨r[pos]'(by rw [← hszH.out]; exact hp), by simp⟩
      obtain ⟨d1, d2⟩ := dec_at hb
      cases hdb : digB b with
      | true =>
        have d3 := hid (d2 hdb)
        clear d2
        go_wp2_with (go_at_call 69; refine (tdigit_w _ _).mono ?_; rw [d1, hdb]; rintro e w1 ⟨rfl, rfl⟩)
        go_roundw
        case rel =>
          refine ⟨pos + (Utf8.decode (bs r) pos).2, rfl, hit2, hbw2, hid ?_⟩
          rw [d3.out, List.take_add_one, hb]
          rw [List.all_append, hP.out]
          simp [hdb]
        case measure =>
          simp only [World.iterPos, hit2, hit]
          omega
      | false =>
        obtain ⟨t1, t2⟩ := tw_at hP.out (fun b' hb' => by rw [hb] at hb'; injection hb' with e; rw [← e]; exact hdb)
        have q1 : (bs r).extract 0 pos = A := by rw [ex_take, ← t1, hAH.out]
        have q2 : (bs r).extract pos (bs r).size = bs B := by rw [ex_drop, ← t2, hBH.out]
        have hpz : (pos : Int) ≤ ((bs r).size : Int) := by omega
        have hR2 := hH.out.below hbw2
        obtain ⟨z0, z1, g0, g1⟩ := hR2.cells
        have hRR := hid (hR2.set0 B)
        have hKK := hid ((Kpt.of_below (F := fun b => b = g) hbw2).trans (Kpt.of_set (F := fun b => b = g) _ (p := ⟨g, 0, none⟩) rfl (.string (bs B))))
        clear d2 t1 t2 hR2
        go_wp2_with (go_at_call 69; refine (tdigit_w _ _).mono ?_; rw [d1, hdb]; rintro e w1 ⟨rfl, rfl⟩)
        go_ret
        exact ⟨rfl, hRR.out, hKK.out⟩
    · have hnx : ∀ ty, (Instr.next (.pointer (some ⟨w.heap.size, 0, none⟩)) true ty).run Tryz.prog wr = _ := fun ty => Lib.run_next_end_at wr w.heap.size (bs r) pos ty hit hp
      have hall : r.all digB = true := by
        have := hP.out
        rw [List.take_of_length_le (by have := hszH.out; omega)] at this
        exact this
      obtain ⟨u1, u2⟩ := tw_at (pos := r.length) (r := r) (by rw [List.take_length]; exact hall) (fun b hb => by simp at hb)
      have q1 : (bs r).extract 0 (bs r).size = A := by rw [ex_take, hszH.out, ← u1, hAH.out]
      have q2 : (bs r).extract (bs r).size (bs r).size = bs B := by rw [ex_drop, hszH.out, ← u2, hBH.out]
      have hBe : bs B = ByteArray.empty := by
        rw [← q2]
        apply ByteArray.ext
        simp
      have hRR : Hid (Rdr g B ov (wr.setCell ⟨g, 0, none⟩ (.string ByteArray.empty))) := hid (by rw [← hBe]; exact hRw.set0 B)
      have hKK := hid ((Kpt.of_below (F := fun b => b = g) hbw).trans (Kpt.of_set (F := fun b => b = g) _ (p := ⟨g, 0, none⟩) rfl (.string ByteArray.empty)))
      clear hBe
      clear u1 u2 hRw
      go_wp2
      go_ret
      exact ⟨rfl, hRR.out, hKK.out⟩
end Go.Proofs.YtjacoodfhkaioaaGreatDoor
namespace Go.Proofs.YtjacoodfhkaioaaGreatDoor
open Go.ChangeShapes Go.WideShapes Go.ChangeAt Go.RowKit
set_option linter.unusedSimpArgs false
set_option linter.unusedVariables false
set_option maxRecDepth 2000
/-- limbs that are worth n, wherever they lie -/
def SlV (v : Value) (n K : Nat) (w : World) : Prop := ∃ (o : Option Addr) (l : List Nat) (c z : Nat), v = .slice o z c ∧ z = l.length ∧ Lies o l w ∧ l.length ≤ c ∧ Lm 4294967296 l ∧ gval 4294967296 l = n ∧ l.length ≤ K
theorem SlV.isN {v : Value} {n K : Nat} {w : World} (h : SlV v n K w) (s : Bool) : IsN (.agg #[.bool s, v]) (sv s n) K w := by
  obtain ⟨o, l, c, z, rfl, rfl, h1, h2, h3, h4, h5⟩ := h
  exact ⟨s, o, l, c, rfl, h1, h2, h3, by rw [h4], h5⟩
theorem SlV.below {v : Value} {n K : Nat} {w w' : World} (h : SlV v n K w) (hb : Below w.heap.size w w') : SlV v n K w' := by
  obtain ⟨o, l, c, z, rfl, rfl, h1, rest⟩ := h
  exact ⟨o, l, c, _, rfl, rfl, h1.below hb, rest⟩
theorem Fr.slv {B : Nat} {v : Value} {l : List Nat} {w : World} {n K : Nat} (h : Fr B v l w) (hm : Lm 4294967296 l) (hn : gval 4294967296 l = n) (hK : l.length ≤ K) : SlV v n K w := by
  obtain ⟨o, c, rfl, h1, h2, _⟩ := h.parts
  exact ⟨o, l, c, _, rfl, rfl, h1, h2, hm, hn, hK⟩
theorem Fr.put {B g c n : Nat} {l : List Nat} {w : World} (h : Fr B (.slice (some ⟨g, 0, none⟩) n c) l w) {j : Nat} (x : Nat) (hj : j < l.length) : Fr B (.slice (some ⟨g, 0, none⟩) n c) (l.set j x) (w.setCell ⟨g, j, none⟩ (.int .u32 (x : Int))) := by
  rcases h.2 with ⟨hv, h0⟩ | ⟨g', cap, cur, hv, hb, hg, hnc, hcm, hcs, htake⟩
  · simp at hv
  · simp only [Value.slice.injEq, Option.some.injEq, Addr.mk.injEq, and_true] at hv
    obtain ⟨rfl, rfl, rfl⟩ := hv
    refine ⟨by simp, .inr ⟨g, c, cur.setIfInBounds j (.int .u32 (x : Int)), by simp, hb, ?_, by simpa using hnc, hcm, by simpa using hcs, ?_⟩⟩
    · simp [World.setCell, Array.getElem?_modify, hg]
    · rw [Array.toList_setIfInBounds, List.length_set, List.map_set, List.take_set, htake]
theorem glim_of_len {l : List Nat} (hm : Lm 4294967296 l) (h : l.length ≤ (glim 4294967296 (gval 4294967296 l)).length) : glim 4294967296 (gval 4294967296 l) = l := by
  obtain ⟨k, hk, e⟩ := glim_is_take hm
  rw [e] at h ⊢
  rw [List.length_take] at h
  exact List.take_of_length_le (by omega)
theorem grown_end {n d : Nat} {L : List Nat} (hm : Lm 4294967296 L) (hl : L.length = (glim 4294967296 n).length) (hv : gval 4294967296 L = n * 10 + d) : glim 4294967296 (n * 10 + d) = L := by
  rw [← hv]
  refine glim_of_len hm ?_
  rw [hv, hl]
  refine Nat.le_of_not_lt fun h => ?_
  have := glim_len_lt (by omega) h
  omega
theorem grown_more {n c d : Nat} {L : List Nat} (hm : Lm 4294967296 L) (hc : c < 4294967296) (hc0 : 0 < c) (hl : L.length = (glim 4294967296 n).length) (hv : gval 4294967296 L + 4294967296 ^ L.length * c = n * 10 + d) : glim 4294967296 (n * 10 + d) = L ++ [c] := by
  have e : gval 4294967296 (L ++ [c]) = n * 10 + d := by rw [gval_append]; simpa [gval] using hv
  rw [← e]
  refine glim_canon (by omega) (hm.append (Lm.cons hc (Lm.nil _))) fun x hx => ?_
  simp at hx; omega
theorem grow_step {P S T c x t d : Nat} (ht : c + x * 10 = t) (h : S + P * c = T * 10 + d) : S + P * (t % 4294967296) + P * 4294967296 * (t / 4294967296) = (T + P * x) * 10 + d := by
  have e2 : P * t = P * (t % 4294967296) + P * 4294967296 * (t / 4294967296) := by
    rw [Nat.mul_assoc, ← Nat.mul_add, Nat.mod_add_div]
  have e : P * t = P * c + P * (x * 10) := by rw [← ht, Nat.mul_add]
  rw [Nat.add_mul, Nat.mul_assoc P x 10]; omega
set_option maxHeartbeats 1000000 in
theorem grown_w (B n d : Nat) (v : Value) (w : World) (hd : d < 10) (hF : Fr B v (glim 4294967296 n) w) (hlen : (glim 4294967296 n).length ≤ 1000000) (hBw : B ≤ w.heap.size) :
    Calls Tryz.prog 131 #[v, .int .u32 10, .int .u32 (d : Int)] w fun e w' => ∃ v', e = .returned v' ∧ Fr B v' (glim 4294967296 (n * 10 + d)) w' ∧ Below B w w' := by
  obtain ⟨i0, hi, hy0, hy1, hy2⟩ := info_parts info32u
  have hm := lm_glim (b := 4294967296) (by omega) n
  have hv := gval_glim (b := 4294967296) (by omega) n
  rcases hF.shape with ⟨rfl, h2⟩ | ⟨g, c, rfl⟩
  · have hn0 : n = 0 := (glim_nil (by omega)).1 h2
    subst hn0
    rw [Nat.zero_mul, Nat.zero_add]
    have hgd : 0 < d → glim 4294967296 d = [d] := fun h => by
      have := glim_canon (b := 4294967296) (by omega) (l := [d]) (Lm.cons (by omega) (Lm.nil _)) (fun x hx => by simp at hx; omega)
      simpa [gval] using this
    have hgd' := hid hgd
    clear hgd hv hm h2
    have wd : IntKind.u64.wrap (d : Int) = (d : Int) := by rw [IntKind.wrap_u64]; omega
    have wd2 : IntKind.u32.wrap (d : Int) = (d : Int) := by rw [IntKind.wrap_u32]; omega
    go_enter Tryz.func131, Tryz.ntmps131
    go_wp2
    go_loopw [7, 14] (fun cv iv wr => cv = .int .u64 (d : Int) ∧ iv = .int .i64 0 ∧ wr = w) (fun _ _ _ => 0)
    case atStart => exact ⟨rfl, rfl, rfl⟩
    case round =>
      obtain ⟨rfl, rfl, rfl⟩ := hrel
      by_cases hd0 : d = 0
      · subst hd0
        go_wp2
        go_ret
        exact ⟨_, rfl, by rw [glim_zero]; exact Fr.nil _ _, Below.refl _ _⟩
      · have hdp : (0 : Int) < (d : Int) := by omega
        have hN : wr.ownsRow B 145 1 (.slice none 0 0) 0 [] := World.ownsRow_nil _ _ _ _
        go_wp2_with (at_builtin; refine wpList_append_own _ rfl _ _ 23 rfl B 145 i0 (.int .u32 0) 1 4 Tryz.underlying23 hi hy0 hy1 hy2 rfl (by decide) _ _ _ rfl (World.ownsRow.alloc hN _) ⟨wr.heap.size, 0, none⟩ 1 1 [.int .u32 (d : Int)] rfl rfl ?c1 ?c2 ?c3 ?c4 ?c5 ?_)
        first
          | (case c1 =>
              intro j u hj
              match j, hj with
              | 0, hj => simp at hj; subst hj; simp [Addr.add]
              | j + 1, hj => simp at hj)
          | skip
        case c2 => first | rfl | (intro u hu; simp at hu; subst hu; rfl)
        case c3 => unfold maxLen; omega
        case c4 => omega
        case c5 => first | omega | (simp; omega)
        intro v' w2 hown' hgrow _
        have hB2 : Below B wr w2 := ((Below.refl B wr).alloc hBw _).grown hgrow (by simp; omega) (fun q hq => by simp [Value.ownBlock] at hq)
        go_wp2
        go_ret
        refine ⟨v', rfl, ?_, hB2⟩
        rw [hgd'.out (by omega)]
        unfold Fr
        simpa using hown'
  · obtain ⟨hgB, hgw, hOwn, hlc⟩ := hF.own
    have wd : IntKind.u64.wrap (d : Int) = (d : Int) := by rw [IntKind.wrap_u64]; omega
    have hlc' := hlc
    obtain ⟨A, hA⟩ : ∃ A, glim 4294967296 n = A := ⟨_, rfl⟩
    obtain ⟨G, hG⟩ : ∃ G, glim 4294967296 (n * 10 + d) = G := ⟨_, rfl⟩
    have hge := fun (L : List Nat) => grown_end (n := n) (d := d) (L := L)
    have hgm := fun (L : List Nat) (c : Nat) => grown_more (n := n) (d := d) (c := c) (L := L)
    rw [hA] at hF hlen hm hv hOwn hlc hlc' hge hgm ⊢
    rw [hG] at hge hgm ⊢
    have hge' := hid hge
    have hgm' := hid hgm
    have hv' := hid hv
    clear hA hG hge hgm hv
    go_enter Tryz.func131, Tryz.ntmps131
    go_wp2
    go_loopw [7, 14] (fun cv iv wr => ∃ (k cn : Nat) (L : List Nat), cv = .int .u64 (cn : Int) ∧ iv = .int .i64 (k : Int) ∧ k ≤ A.length ∧ cn < 4294967296 ∧ Fr B (.slice (some ⟨g, 0, none⟩) A.length c) L wr ∧ L.length = A.length ∧ Lm 4294967296 L ∧ Below B w wr ∧ Hid (∀ j, k ≤ j → L[j]? = A[j]?) ∧ Hid (gval 4294967296 (L.take k) + 4294967296 ^ k * cn = gval 4294967296 (A.take k) * 10 + d)) (fun _ iv _ => A.length - (intOf iv).toNat)
    case atStart => exact ⟨0, d, A, rfl, rfl, by omega, by omega, hF, rfl, hm, Below.refl _ _, hid fun _ _ => rfl, hid (by simp [gval])⟩
    case round =>
      obtain ⟨k, cn, L, rfl, rfl, hk, hcn, hFL, hLl, hLm, hbw, hJ, hH⟩ := hrel
      obtain ⟨_, hgw2, hOL, _⟩ := hFL.own
      by_cases h1 : k < A.length
      · have h1z : (k : Int) < (A.length : Int) := by omega
        obtain ⟨x, hx⟩ : ∃ x, A[k]? = some x := ⟨A[k], by simp [h1]⟩
        have hxm := hm.at hx
        have hxL : L[k]? = some x := by rw [hJ.out k (Nat.le_refl _), hx]
        have cx := hOL.1 k x hxL
        have fx := hOL.2 k
        obtain ⟨xt, hxt⟩ : ∃ xt, x * 10 = xt := ⟨_, rfl⟩
        obtain ⟨t, ht⟩ : ∃ t, cn + xt = t := ⟨_, rfl⟩
        have w1 : IntKind.u64.wrap ((x : Int) * 10) = (xt : Int) := by rw [IntKind.wrap_u64]; omega
        have w2 : IntKind.u64.wrap ((cn : Int) + (xt : Int)) = (t : Int) := by rw [IntKind.wrap_u64]; omega
        have w3 : IntKind.u32.wrap (t : Int) = ((t % 4294967296 : Nat) : Int) := by rw [IntKind.wrap_u32]; omega
        have htm : t / 4294967296 < 4294967296 := by omega
        have hstep := hid (grow_step (x := x) (t := t) (by rw [hxt]; exact ht) hH.out)
        clear hxt ht hxL
        go_wp2
        go_roundw
        case rel =>
          refine ⟨k + 1, t / 4294967296, L.set k (t % 4294967296), by congr 1, by go_num, by omega, htm, hFL.put _ (by omega), by simp [hLl], hLm.set _ _ (Nat.mod_lt _ (by omega)), hbw.setCell (p := ⟨g, k, none⟩) hgB _, hid fun j hj => ?_, hid ?_⟩
          · rw [List.getElem?_set_ne (by omega)]; exact hJ.out j (by omega)
          · rw [gval_set_take _ _ (by omega), gval_take_succ _ hx, pow_step]
            exact hstep.out
        case measure => simp [intOf]; omega
      · have h1z : ¬ (k : Int) < (A.length : Int) := by omega
        have hke : k = A.length := by omega
        subst hke
        have hh := hH.out
        rw [List.take_of_length_le (by omega), List.take_length, hv'.out] at hh
        have hbz := hbw.size
        by_cases hc0 : cn = 0
        · subst hc0
          have hGe := hge'.out L hLm hLl (by omega)
          have hGe' := hid hGe
          clear hH hJ hh hge' hgm' hGe
          go_wp2
          go_ret
          exact ⟨_, rfl, by rw [hGe'.out]; exact hFL, hbw⟩
        · have hcp : (0 : Int) < (cn : Int) := by omega
          have hGe := hgm'.out L cn hLm hcn (by omega) hLl (by rw [hLl]; exact hh)
          have hGe' := hid hGe
          have wc : IntKind.u32.wrap (cn : Int) = (cn : Int) := by rw [IntKind.wrap_u32]; omega
          have hFL' : wr.ownsRow B 145 1 (.slice (some ⟨g, 0, none⟩) A.length c) A.length (L.map fun (x : Nat) => Value.int .u32 (x : Int)) := by
            have := hFL; unfold Fr at this; rw [hLl] at this; exact this
          clear hH hJ hh hge' hgm' hGe
          go_wp2_with (at_builtin; refine wpList_append_own _ rfl _ _ 23 rfl B 145 i0 (.int .u32 0) 1 4 Tryz.underlying23 hi hy0 hy1 hy2 rfl (by decide) _ _ _ rfl (World.ownsRow.alloc hFL' _) ⟨wr.heap.size, 0, none⟩ 1 1 [.int .u32 (cn : Int)] rfl rfl ?c1 ?c2 ?c3 ?c4 ?c5 ?_)
          first
            | (case c1 =>
                intro j u hj
                match j, hj with
                | 0, hj => simp at hj; subst hj; simp [Addr.add]
                | j + 1, hj => simp at hj)
            | skip
          case c2 => first | rfl | (intro u hu; simp at hu; subst hu; rfl)
          case c3 => unfold maxLen; omega
          case c4 => omega
          case c5 => first | omega | (simp; omega)
          intro v' w2 hown' hgrow _
          have hB2 : Below B w w2 := (hbw.alloc (by omega) _).grown hgrow (by simp; omega) (fun q hq => by simp only [Value.ownBlock, Option.some.injEq] at hq; omega)
          go_wp2
          go_ret
          refine ⟨v', rfl, ?_, hB2⟩
          rw [hGe'.out]
          unfold Fr
          have el : (L ++ [cn]).length = A.length + 1 := by simp [hLl]
          rw [el, List.map_append]
          exact hown'
end Go.Proofs.YtjacoodfhkaioaaGreatDoor
namespace Go.Proofs.YtjacoodfhkaioaaGreatDoor
open Go.ChangeShapes Go.WideShapes Go.ChangeAt Go.RowKit Go.Shelf
set_option linter.unusedSimpArgs false
set_option linter.unusedVariables false
set_option maxRecDepth 2000
def isDigs (l : List UInt8) : Bool := l.all fun x => decide (48 ≤ x.toNat ∧ x.toNat ≤ 57)
def okNum (l : List UInt8) : Bool := isDigs l && (l == [48] || (l != [] && l.head? != some 48))
theorem isDigs_at {l : List UInt8} {k : Nat} {x : UInt8} (h : l[k]? = some x) (hx : ¬ (48 ≤ x.toNat ∧ x.toNat ≤ 57)) : isDigs l = false := by
  unfold isDigs
  rw [List.all_eq_false]
  exact ⟨x, List.mem_of_getElem? h, by simpa using hx⟩
theorem isDigs_all {l : List UInt8} (h : ∀ (k : Nat) (x : UInt8), l[k]? = some x → 48 ≤ x.toNat ∧ x.toNat ≤ 57) : isDigs l = true := by
  unfold isDigs
  rw [List.all_eq_true]
  intro x hx
  obtain ⟨k, hk⟩ := List.getElem?_of_mem hx
  simpa using h k x hk
/-- a sign of a text that is no digit, or a digit -/
theorem sign_at (s : ByteArray) (k : Nat) (h : k < s.size) : ∃ x : UInt8, s.data.toList[k]? = some x ∧ ((48 ≤ x.toNat ∧ x.toNat ≤ 57 ∧ Utf8.decode s k = (x.toNat, 1)) ∨ (¬ (48 ≤ x.toNat ∧ x.toNat ≤ 57) ∧ ((Utf8.decode s k).1 < 48 ∨ 57 < (Utf8.decode s k).1))) := by
  refine ⟨s[k]'h, ?_, ?_⟩
  · rw [Array.getElem?_toList]; simp [ByteArray.getElem_eq_getElem_data, show k < s.data.size from h]
  · by_cases ha : (s[k]'h).toNat < 128
    · rw [decode_ascii s k h ha]
      by_cases hd : 48 ≤ (s[k]'h).toNat ∧ (s[k]'h).toNat ≤ 57
      · exact .inl ⟨hd.1, hd.2, rfl⟩
      · exact .inr ⟨hd, by simp only []; omega⟩
    · have := (decode_high s k h (by omega)).1
      exact .inr ⟨by omega, .inr (by omega)⟩
set_option maxHeartbeats 1000000 in
theorem written_w (s : ByteArray) (w : World) (hs : s.size ≤ 1000000) :
    Calls Tryz.prog 130 #[.string s] w fun e w' => e = .returned (.bool (okNum s.data.toList)) ∧ Below w.heap.size w w' := by
  obtain ⟨R, hR⟩ : ∃ R, okNum s.data.toList = R := ⟨_, rfl⟩
  rw [hR]
  have hR' := hid hR
  clear hR
  go_enter Tryz.func130, Tryz.ntmps130
  go_wp2
  go_loopg [] s.size (fun t wr => ∃ k : Nat, t + k = s.size ∧ wr.heap[w.heap.size]? = some (.stringIter s k) ∧ Below w.heap.size w wr ∧ ∀ j x, j < k → s.data.toList[j]? = some x → 48 ≤ x.toNat ∧ x.toNat ≤ 57)
  case atStart => exact ⟨0, by omega, World.iter_heap w s 0, (Below.refl _ w).alloc (Nat.le_refl _) _, fun j x hj => absurd hj (by omega)⟩
  case round =>
    obtain ⟨k, htk, hit, hbw, hall⟩ := hrel
    have hall' := hid hall
    clear hall
    by_cases hp : k < s.size
    · have hnx : ∀ ty, (Instr.next (.pointer (some ⟨w.heap.size, 0, none⟩)) true ty).run Tryz.prog wr = _ := fun ty => Lib.run_next_any_at wr w.heap.size s k ty hit hp
      have hit2 := Lib.iterAt_heap wr w.heap.size s k (k + (Utf8.decode s k).2) hit
      have hbw2 := Lib.below_iterAt hbw (k := w.heap.size) (Nat.le_refl _) s (k + (Utf8.decode s k).2)
      obtain ⟨x, hx, hcase⟩ := sign_at s k hp
      rcases hcase with ⟨h48, h57, hdec⟩ | ⟨hnd, hr⟩
      · rw [hdec] at hnx hit2 hbw2
        have z1 : ¬ (x.toNat : Int) < 48 := by omega
        have z2 : ¬ (57 : Int) < (x.toNat : Int) := by omega
        have hx' := hid hx
        clear hx hdec
        go_wp2
        go_roundg (gk - 1)
        case measure => omega
        case rel =>
          refine ⟨k + 1, by omega, hit2, hbw2, fun j y hj hy => ?_⟩
          by_cases hjk : j = k
          · subst hjk; rw [hx'.out] at hy; injection hy with hy; subst hy; exact ⟨h48, h57⟩
          · exact hall'.out j y (by omega) hy
      · have hRf : R = false := by rw [← hR'.out]; unfold okNum; rw [isDigs_at hx hnd]; rfl
        obtain ⟨r, hrr⟩ : ∃ r, (Utf8.decode s k).1 = r := ⟨_, rfl⟩
        rw [hrr] at hnx hr
        clear hx hrr
        rcases hr with hr | hr
        · have z1 : (r : Int) < 48 := by omega
          go_wp2
          go_ret
          exact ⟨by first | (rw [hRf]; rfl) | rfl, hbw2⟩
        · have z1 : ¬ (r : Int) < 48 := by omega
          have z2 : (57 : Int) < (r : Int) := by omega
          go_wp2
          go_ret
          exact ⟨by first | (rw [hRf]; rfl) | rfl, hbw2⟩
    · have hnx : ∀ ty, (Instr.next (.pointer (some ⟨w.heap.size, 0, none⟩)) true ty).run Tryz.prog wr = _ := fun ty => Lib.run_next_end_at wr w.heap.size s k ty hit hp
      have hdg : isDigs s.data.toList = true := isDigs_all fun j x hj => hall'.out j x (by
        have := (List.getElem?_eq_some_iff.1 hj).1
        have hz : s.data.toList.length = s.size := rfl
        omega) hj
      have hRe : R = (s.data.toList == [48] || (s.data.toList != [] && s.data.toList.head? != some 48)) := by rw [← hR'.out]; unfold okNum; rw [hdg]; simp
      clear hall' hR' hdg
      obtain ⟨l, hl⟩ : ∃ l, s.data.toList = l := ⟨_, rfl⟩
      have hlz : s.size = l.length := by rw [← hl]; rfl
      have hlt : s.toList = l := by rw [ByteArray.toList_eq]; exact hl
      rw [hl] at hRe
      cases l with
      | nil =>
        have hRf : R = false := by rw [hRe]; decide
        subst hRf
        have e1 : (s.toList == [48]) = false := by rw [hlt]; decide
        have e2 : s.toList.isEmpty = true := by rw [hlt]; rfl
        clear hRe hl hlz hlt
        go_wp2
        all_goals first | (go_ret; exact ⟨rfl, hbw⟩) | (exfalso; simp_all; done)
      | cons x t =>
        have hz0 : 0 < s.size := by rw [hlz]; simp
        have hz0i : (0 : Int) < (s.size : Int) := by omega
        have e2 : s.toList.isEmpty = false := by rw [hlt]; rfl
        have hs0 : s[0]'hz0 = x := by
          have h1 : s.data.toList[0]? = some x := by rw [hl]; rfl
          rw [Array.getElem?_toList, Array.getElem?_eq_getElem (show 0 < s.data.size from hz0)] at h1
          injection h1
        by_cases hx : x = 48
        · by_cases ht : t = []
          · have hRt : R = true := by rw [hRe, hx, ht]; decide
            have e1 : (s.toList == [48]) = true := by rw [hlt, hx, ht]; decide
            subst hRt
            clear hRe hl hlz hlt hs0
            go_wp2
            all_goals first | (go_ret; exact ⟨rfl, hbw⟩) | (exfalso; simp_all; done)
          · have hRf : R = false := by
              rw [hRe, hx]
              cases t with
              | nil => exact absurd rfl ht
              | cons y u => simp
            have e1 : (s.toList == [48]) = false := by rw [hlt, hx]; simp [ht]
            subst hRf
            clear hRe hl hlz hlt
            go_wp2
            all_goals first | (go_ret; exact ⟨rfl, hbw⟩) | (exfalso; simp_all; done)
        · have hRt : R = true := by rw [hRe]; simp [hx]
          have e1 : (s.toList == [48]) = false := by rw [hlt]; simp [hx]
          have e3 : ((x.toNat : Int) != 48) = true := by
            simp only [bne_iff_ne, ne_eq]
            intro h
            exact hx (UInt8.toNat_inj.1 (show x.toNat = (48 : UInt8).toNat by have : (48 : UInt8).toNat = 48 := rfl; omega))
          subst hRt
          clear hRe hl hlz hlt
          go_wp2
          all_goals first | (go_ret; exact ⟨rfl, hbw⟩) | (exfalso; simp_all; done)
def pneg (l : List UInt8) : Bool := Lib.hasPrefix l [45]
def pdig (l : List UInt8) : List UInt8 := Lib.trimPrefix l [45]
def pval (d : List UInt8) : Nat := d.foldl (fun n x => n * 10 + (x.toNat - 48)) 0
def pok (l : List UInt8) : Bool := okNum (pdig l) && !(pneg l && pdig l == [48])
def pE (l : List UInt8) : Int := if pok l = true then (if 620 < (pdig l).length ∨ 64 < (glim 4294967296 (pval (pdig l))).length then 3 else 0) else 10
def pZ (l : List UInt8) : Int := if pE l = 0 then sv (pneg l) (pval (pdig l)) else 0
theorem pval_snoc (d : List UInt8) (x : UInt8) : pval (d ++ [x]) = pval d * 10 + (x.toNat - 48) := by simp [pval, List.foldl_append]
theorem pval_lt : ∀ (k : Nat) (d : List UInt8), d.length = k → isDigs d = true → pval d < 10 ^ k
  | 0, d, h, _ => by
    have : d = [] := List.eq_nil_of_length_eq_zero h
    subst this; simp [pval]
  | k + 1, d, h, hd => by
    have hne : d ≠ [] := fun e => by rw [e] at h; simp at h
    rw [← List.dropLast_concat_getLast hne] at hd ⊢
    have hl : d.dropLast.length = k := by simp [h]
    unfold isDigs at hd
    rw [List.all_append, Bool.and_eq_true] at hd
    have ih := pval_lt k d.dropLast hl hd.1
    have hx : (d.getLast hne).toNat ≤ 57 := by have := hd.2; simp at this; omega
    rw [pval_snoc, Nat.pow_succ]; omega
theorem pval_len {d : List UInt8} (hd : isDigs d = true) : (glim 4294967296 (pval d)).length ≤ d.length := by
  refine (glim_len (by omega) _ _).2 (Nat.lt_of_lt_of_le (pval_lt _ d rfl hd) (Nat.pow_le_pow_left (by omega) _))
theorem isDigs_take {d : List UInt8} (hd : isDigs d = true) (k : Nat) : isDigs (d.take k) = true := by
  unfold isDigs at *
  rw [List.all_eq_true] at *
  exact fun x hx => hd x (List.mem_of_mem_take hx)
theorem cutPrefix_w (s : ByteArray) (w : World) : Calls Tryz.prog 129 #[.string s, .string ⟨#[45]⟩] w fun e w' => e = .returned (.tuple #[.string ⟨(pdig s.data.toList).toArray⟩, .bool (pneg s.data.toList)]) ∧ w' = w :=
  Any.strings_CutPrefix Tryz.lays103 s ⟨#[45]⟩ w
theorem Fr.of_blocks {B : Nat} {v : Value} {l : List Nat} {w w' : World} (h : Fr B v l w) (hb : ∀ k, B ≤ k → k < w.heap.size → w'.heap[k]? = w.heap[k]?) : Fr B v l w' := by
  refine ⟨h.1, ?_⟩
  rcases h.2 with hn | ⟨g, cap, cur, hv, hbg, hg, rest⟩
  · exact .inl hn
  · exact .inr ⟨g, cap, cur, hv, hbg, (hb g hbg (Array.getElem?_eq_some_iff.1 hg).1).trans hg, rest⟩
set_option maxHeartbeats 2000000 in
theorem parse_w (s : ByteArray) (w : World) (hs : s.size ≤ 1000000) :
    Calls Tryz.prog 103 #[.string s] w fun e w' => ∃ v', e = .returned (.tuple #[v', .int .i64 (pE s.data.toList)]) ∧ IsC v' (pZ s.data.toList) 64 w' ∧ Below w.heap.size w w' := by
  obtain ⟨Er, hEr⟩ : ∃ Er, pE s.data.toList = Er := ⟨_, rfl⟩
  obtain ⟨Z, hZ⟩ : ∃ Z, pZ s.data.toList = Z := ⟨_, rfl⟩
  rw [hEr, hZ]
  have hEr' := hid hEr
  have hZ' := hid hZ
  unfold pE at hEr'
  unfold pZ at hZ'
  rw [hEr] at hZ'
  clear hEr hZ
  have hcut := cutPrefix_w s
  have hdl : (pdig s.data.toList).length ≤ s.size := by
    unfold pdig Lib.trimPrefix
    have hz : s.data.toList.length = s.size := rfl
    split
    · rw [List.length_drop]; omega
    · omega
  unfold pok at hEr'
  obtain ⟨d, hd⟩ : ∃ d, pdig s.data.toList = d := ⟨_, rfl⟩
  obtain ⟨ng, hng⟩ : ∃ ng, pneg s.data.toList = ng := ⟨_, rfl⟩
  rw [hd, hng] at hcut hEr' hZ'
  rw [hd] at hdl
  clear hd hng
  have kR := Box.new w (.bool false) (.slice none 0 0) 115
  have hB0 : Below w.heap.size w (w.alloc (.cells #[.bool false, .slice none 0 0] 115)) := (Below.refl _ w).alloc (Nat.le_refl _) _
  have hz0 : (w.alloc (.cells #[.bool false, .slice none 0 0] 115)).heap.size = w.heap.size + 1 := by simp
  have hds : (⟨d.toArray⟩ : ByteArray).size = d.length := by simp [ByteArray.size]
  have hdt : (⟨d.toArray⟩ : ByteArray).toList = d := by rw [ByteArray.toList_eq]
  have hwr : ∀ W : World, Calls Tryz.prog 130 #[.string ⟨d.toArray⟩] W fun e w' => e = .returned (.bool (okNum d)) ∧ Below W.heap.size W w' := fun W => written_w ⟨d.toArray⟩ W (by rw [hds]; omega)
  go_enter Tryz.func103, Tryz.ntmps103
  go_wp2_with fail
  generalize (w.alloc (.cells #[.bool false, .slice none 0 0] 115)) = W0 at *
  refine (hcut _).mono ?_
  rintro e w1 ⟨rfl, rfl⟩
  clear hcut
  go_wp2_with fail
  refine (hwr _).mono ?_
  rintro e w2 ⟨rfl, b2⟩
  clear hwr
  have kR2 := kR.below b2 (by omega)
  have hB2 := below_and hB0 (Nat.le_refl _) b2
  have hz2 := b2.size
  obtain ⟨r1, r2, r3, r4⟩ := id kR2
  cases hok : okNum d with
  | false =>
    have hE : Er = 10 := by rw [← hEr'.out, hok]; simp
    have hZ0 : Z = 0 := by rw [← hZ'.out, hE]; rfl
    subst hE hZ0
    clear hEr' hZ'
    go_wp2
    refine bodyPost_ret (v := .tuple #[.agg #[.bool false, .slice none 0 0], .int .i64 10]) (by simp [results, Tryz.results103, go_sem, r1, r2]) rfl ⟨_, rfl, isC_zero _ _, ?_⟩
    exact (hB2.setCell (p := ⟨w.heap.size, 0, none⟩) (by simp) _).setCell (p := ⟨w.heap.size, 1, none⟩) (by simp) _
  | true =>
    by_cases h48 : ng = true ∧ d = [48]
    · obtain ⟨rfl, rfl⟩ := h48
      have hE : Er = 10 := by rw [← hEr'.out, hok]; simp
      have hZ0 : Z = 0 := by rw [← hZ'.out, hE]; rfl
      subst hE hZ0
      clear hEr' hZ'
      go_wp2
      refine bodyPost_ret (v := .tuple #[.agg #[.bool false, .slice none 0 0], .int .i64 10]) (by simp [results, Tryz.results103, go_sem, r1, r2]) rfl ⟨_, rfl, isC_zero _ _, ?_⟩
      exact (hB2.setCell (p := ⟨w.heap.size, 0, none⟩) (by simp) _).setCell (p := ⟨w.heap.size, 1, none⟩) (by simp) _
    · have hpk : (okNum d && !(ng && d == [48])) = true := by
        rw [hok]
        cases ng
        · rfl
        · have : (d == [48]) = false := by simpa using h48
          rw [this]; rfl
      have hEr2 := hEr'.out
      rw [if_pos hpk] at hEr2
      have hE2 := hid hEr2
      have hdg : isDigs d = true := by
        unfold okNum at hok
        rw [Bool.and_eq_true] at hok; exact hok.1
      have hpl := pval_len hdg
      have hsz : s.size ≤ 1000000 := hs
      have hfin : Hid (ng = true → (d == [48]) = false) := hid fun h => by simpa [h] using h48
      clear h48 hpk hEr2 hEr' hok
      by_cases h620 : d.length ≤ 620
      · have h620z : ¬ (620 : Int) < (d.length : Int) := by omega
        cases ng with
        | false =>
          go_wp2
          have hrel0 : Fr (w2.heap.size + 1) (.slice none 0 0) (glim 4294967296 (pval (d.take 0))) (w2.iter ⟨d.toArray⟩ 0) := by
            rw [List.take_zero]; show Fr _ _ (glim 4294967296 0) _; rw [glim_zero]; exact Fr.nil _ _
          go_loopg [6] d.length (fun t v wr => ∃ k : Nat, t + k = d.length ∧ wr.heap[w2.heap.size]? = some (.stringIter ⟨d.toArray⟩ k) ∧ Fr (w2.heap.size + 1) v (glim 4294967296 (pval (d.take k))) wr ∧ Below w2.heap.size w2 wr ∧ w2.heap.size + 1 ≤ wr.heap.size)
          case atStart => exact ⟨0, by omega, World.iter_heap w2 _ 0, hrel0, (Below.refl _ w2).alloc (Nat.le_refl _) _, by simp [World.iter]⟩
          case round =>
            obtain ⟨k, htk, hit, hFv, hbw, hzw⟩ := hrel
            clear hrel0 r1 r2 r3 r4
            have hBr : Below w.heap.size w wr := below_and hB2 (Nat.le_refl _) hbw
            have kRr := kR2.below hbw (by omega)
            by_cases hp : k < d.length
            · have hp' : k < (⟨d.toArray⟩ : ByteArray).size := by rw [hds]; exact hp
              have hnx : ∀ ty, (Instr.next (.pointer (some ⟨w2.heap.size, 0, none⟩)) true ty).run Tryz.prog wr = _ := fun ty => Lib.run_next_any_at wr w2.heap.size ⟨d.toArray⟩ k ty hit hp'
              obtain ⟨x, hx, hcase⟩ := sign_at ⟨d.toArray⟩ k hp'
              have hxd : d[k]? = some x := hx
              have hdx : 48 ≤ x.toNat ∧ x.toNat ≤ 57 := by
                unfold isDigs at hdg
                have := List.all_eq_true.1 hdg x (List.mem_of_getElem? hxd)
                simpa using this
              have hdec : Utf8.decode ⟨d.toArray⟩ k = (x.toNat, 1) := by
                rcases hcase with h | h
                · exact h.2.2
                · exact absurd hdx h.1
              rw [hdec] at hnx
              have hit2 := Lib.iterAt_heap wr w2.heap.size ⟨d.toArray⟩ k (k + 1) hit
              have hbw2 := Lib.below_iterAt hbw (k := w2.heap.size) (Nat.le_refl _) ⟨d.toArray⟩ (k + 1)
              have hFv2 : Fr (w2.heap.size + 1) _ (glim 4294967296 (pval (d.take k))) (wr.iterAt w2.heap.size ⟨d.toArray⟩ (k + 1)) := hFv.of_blocks fun g hg _ => Lib.iterAt_other wr w2.heap.size g _ _ (by omega)
              have hz2' : (wr.iterAt w2.heap.size ⟨d.toArray⟩ (k + 1)).heap.size = wr.heap.size := by simp [World.iterAt]
              obtain ⟨dg, hdgv⟩ : ∃ dg, x.toNat - 48 = dg := ⟨_, rfl⟩
              have wa : IntKind.i32.wrap ((x.toNat : Int) - 48) = (dg : Int) := by rw [IntKind.wrap_i32]; omega
              have wb : IntKind.u32.wrap (dg : Int) = (dg : Int) := by rw [IntKind.wrap_u32]; omega
              have hpt : (glim 4294967296 (pval (d.take k))).length ≤ 1000000 := by
                have h1 := pval_len (isDigs_take hdg k)
                rw [List.length_take] at h1; omega
              have hpn : Hid (pval (d.take (k + 1)) = pval (d.take k) * 10 + dg) := hid (by
                rw [List.take_succ_eq_append_getElem hp, pval_snoc, ← hdgv]
                have : d[k] = x := by rw [List.getElem?_eq_getElem hp] at hxd; injection hxd
                rw [this])
              have hdg10 : dg < 10 := by omega
              clear hx hxd hcase hdec hdgv hdx
              generalize (wr.iterAt w2.heap.size ⟨d.toArray⟩ (k + 1)) = Wi at *
              go_wp2_with fail
              refine (grown_w (w2.heap.size + 1) (pval (d.take k)) dg _ _ hdg10 hFv2 hpt (by omega)).mono ?_
              rintro e w9 ⟨v9, rfl, hF9, b9⟩
              have hit9 : w9.heap[w2.heap.size]? = some (.stringIter ⟨d.toArray⟩ (k + 1)) := (b9.block _ (by omega)).trans hit2
              have hs9 := b9.size
              go_wp2
              go_roundg (gk - 1)
              case measure => omega
              case rel => exact ⟨k + 1, by omega, hit9, by rw [hpn.out]; exact hF9, hbw2.trans (below_le b9 (by omega)), by omega⟩
            · have hp' : ¬ k < (⟨d.toArray⟩ : ByteArray).size := by rw [hds]; exact hp
              have hnx : ∀ ty, (Instr.next (.pointer (some ⟨w2.heap.size, 0, none⟩)) true ty).run Tryz.prog wr = _ := fun ty => Lib.run_next_end_at wr w2.heap.size ⟨d.toArray⟩ k ty hit hp'
              rw [List.take_of_length_le (by omega)] at hFv
              have hsl := hFv.slv (K := 1000000) (lm_glim (b := 4294967296) (by omega) _) (gval_glim (by omega) _) (by omega)
              obtain ⟨ov, cv, hve, hLv, hcv, _⟩ := hFv.parts
              subst hve
              obtain ⟨r1, r2, r3, r4⟩ := id kRr
              by_cases h64 : (glim 4294967296 (pval d)).length ≤ 64
              · have h64z : ¬ (64 : Int) < ((glim 4294967296 (pval d)).length : Int) := by omega
                have hE : Er = 0 := by rw [← hE2.out, if_neg (by omega)]
                have hZv : Z = sv false (pval d) := by rw [← hZ'.out, if_pos hE]
                subst hE
                have hN : IsN (.agg #[.bool false, .slice ov (glim 4294967296 (pval d)).length cv]) Z 64 wr := by
                  rw [hZv]; exact ⟨false, ov, _, cv, rfl, hLv, hcv, lm_glim (by omega) _, by rw [gval_glim (by omega)], h64⟩
                clear hE2 hZ' hsl hFv hZv
                go_wp2_with fail
                refine (view_w _ Z 64 _ (by omega) hN).mono ?_
                rintro e w9 ⟨v9, rfl, hv9, b9⟩
                obtain ⟨o9, c9, rfl, L9, z9, q9⟩ := (hv9 _ hN).below b9
                have hB9 := below_and hBr (Nat.le_refl _) b9
                have kR9 := kRr.below b9 (by have := hbw.size; omega)
                clear r1 r2 r3 r4
                obtain ⟨r1, r2, r3, r4⟩ := id kR9
                go_wp2
                refine bodyPost_ret (v := .tuple #[.agg #[.bool (decide (Z < 0)), .slice o9 (glim 4294967296 Z.natAbs).length c9], .int .i64 0]) (by simp [results, Tryz.results103, go_sem, r1, r2]) rfl ⟨_, rfl, ?_, ?_⟩
                · exact (show IsC _ Z _ _ from ⟨o9, c9, rfl, L9, z9, q9⟩).box kR9
                · exact (hB9.setCell (p := ⟨w.heap.size, 0, none⟩) (by simp) _).setCell (p := ⟨w.heap.size, 1, none⟩) (by simp) _
              · have h64z : (64 : Int) < ((glim 4294967296 (pval d)).length : Int) := by omega
                have hE : Er = 3 := by rw [← hE2.out, if_pos (.inr (by omega))]
                have hZ0 : Z = 0 := by rw [← hZ'.out, hE]; rfl
                subst hE hZ0
                clear hE2 hZ' hsl hFv
                go_wp2
                refine bodyPost_ret (v := .tuple #[.agg #[.bool false, .slice none 0 0], .int .i64 3]) (by simp [results, Tryz.results103, go_sem, r1, r2]) rfl ⟨_, rfl, isC_zero _ _, ?_⟩
                exact (hBr.setCell (p := ⟨w.heap.size, 0, none⟩) (by simp) _).setCell (p := ⟨w.heap.size, 1, none⟩) (by simp) _
        | true =>
          have hq48 := hfin.out rfl
          go_wp2
          have hrel0 : Fr (w2.heap.size + 1) (.slice none 0 0) (glim 4294967296 (pval (d.take 0))) (w2.iter ⟨d.toArray⟩ 0) := by
            rw [List.take_zero]; show Fr _ _ (glim 4294967296 0) _; rw [glim_zero]; exact Fr.nil _ _
          go_loopg [6] d.length (fun t v wr => ∃ k : Nat, t + k = d.length ∧ wr.heap[w2.heap.size]? = some (.stringIter ⟨d.toArray⟩ k) ∧ Fr (w2.heap.size + 1) v (glim 4294967296 (pval (d.take k))) wr ∧ Below w2.heap.size w2 wr ∧ w2.heap.size + 1 ≤ wr.heap.size)
          case atStart => exact ⟨0, by omega, World.iter_heap w2 _ 0, hrel0, (Below.refl _ w2).alloc (Nat.le_refl _) _, by simp [World.iter]⟩
          case round =>
            obtain ⟨k, htk, hit, hFv, hbw, hzw⟩ := hrel
            clear hrel0 r1 r2 r3 r4
            have hBr : Below w.heap.size w wr := below_and hB2 (Nat.le_refl _) hbw
            have kRr := kR2.below hbw (by omega)
            by_cases hp : k < d.length
            · have hp' : k < (⟨d.toArray⟩ : ByteArray).size := by rw [hds]; exact hp
              have hnx : ∀ ty, (Instr.next (.pointer (some ⟨w2.heap.size, 0, none⟩)) true ty).run Tryz.prog wr = _ := fun ty => Lib.run_next_any_at wr w2.heap.size ⟨d.toArray⟩ k ty hit hp'
              obtain ⟨x, hx, hcase⟩ := sign_at ⟨d.toArray⟩ k hp'
              have hxd : d[k]? = some x := hx
              have hdx : 48 ≤ x.toNat ∧ x.toNat ≤ 57 := by
                unfold isDigs at hdg
                have := List.all_eq_true.1 hdg x (List.mem_of_getElem? hxd)
                simpa using this
              have hdec : Utf8.decode ⟨d.toArray⟩ k = (x.toNat, 1) := by
                rcases hcase with h | h
                · exact h.2.2
                · exact absurd hdx h.1
              rw [hdec] at hnx
              have hit2 := Lib.iterAt_heap wr w2.heap.size ⟨d.toArray⟩ k (k + 1) hit
              have hbw2 := Lib.below_iterAt hbw (k := w2.heap.size) (Nat.le_refl _) ⟨d.toArray⟩ (k + 1)
              have hFv2 : Fr (w2.heap.size + 1) _ (glim 4294967296 (pval (d.take k))) (wr.iterAt w2.heap.size ⟨d.toArray⟩ (k + 1)) := hFv.of_blocks fun g hg _ => Lib.iterAt_other wr w2.heap.size g _ _ (by omega)
              have hz2' : (wr.iterAt w2.heap.size ⟨d.toArray⟩ (k + 1)).heap.size = wr.heap.size := by simp [World.iterAt]
              obtain ⟨dg, hdgv⟩ : ∃ dg, x.toNat - 48 = dg := ⟨_, rfl⟩
              have wa : IntKind.i32.wrap ((x.toNat : Int) - 48) = (dg : Int) := by rw [IntKind.wrap_i32]; omega
              have wb : IntKind.u32.wrap (dg : Int) = (dg : Int) := by rw [IntKind.wrap_u32]; omega
              have hpt : (glim 4294967296 (pval (d.take k))).length ≤ 1000000 := by
                have h1 := pval_len (isDigs_take hdg k)
                rw [List.length_take] at h1; omega
              have hpn : Hid (pval (d.take (k + 1)) = pval (d.take k) * 10 + dg) := hid (by
                rw [List.take_succ_eq_append_getElem hp, pval_snoc, ← hdgv]
                have : d[k] = x := by rw [List.getElem?_eq_getElem hp] at hxd; injection hxd
                rw [this])
              have hdg10 : dg < 10 := by omega
              clear hx hxd hcase hdec hdgv hdx
              generalize (wr.iterAt w2.heap.size ⟨d.toArray⟩ (k + 1)) = Wi at *
              go_wp2_with fail
              refine (grown_w (w2.heap.size + 1) (pval (d.take k)) dg _ _ hdg10 hFv2 hpt (by omega)).mono ?_
              rintro e w9 ⟨v9, rfl, hF9, b9⟩
              have hit9 : w9.heap[w2.heap.size]? = some (.stringIter ⟨d.toArray⟩ (k + 1)) := (b9.block _ (by omega)).trans hit2
              have hs9 := b9.size
              go_wp2
              go_roundg (gk - 1)
              case measure => omega
              case rel => exact ⟨k + 1, by omega, hit9, by rw [hpn.out]; exact hF9, hbw2.trans (below_le b9 (by omega)), by omega⟩
            · have hp' : ¬ k < (⟨d.toArray⟩ : ByteArray).size := by rw [hds]; exact hp
              have hnx : ∀ ty, (Instr.next (.pointer (some ⟨w2.heap.size, 0, none⟩)) true ty).run Tryz.prog wr = _ := fun ty => Lib.run_next_end_at wr w2.heap.size ⟨d.toArray⟩ k ty hit hp'
              rw [List.take_of_length_le (by omega)] at hFv
              have hsl := hFv.slv (K := 1000000) (lm_glim (b := 4294967296) (by omega) _) (gval_glim (by omega) _) (by omega)
              obtain ⟨ov, cv, hve, hLv, hcv, _⟩ := hFv.parts
              subst hve
              obtain ⟨r1, r2, r3, r4⟩ := id kRr
              by_cases h64 : (glim 4294967296 (pval d)).length ≤ 64
              · have h64z : ¬ (64 : Int) < ((glim 4294967296 (pval d)).length : Int) := by omega
                have hE : Er = 0 := by rw [← hE2.out, if_neg (by omega)]
                have hZv : Z = sv true (pval d) := by rw [← hZ'.out, if_pos hE]
                subst hE
                have hN : IsN (.agg #[.bool true, .slice ov (glim 4294967296 (pval d)).length cv]) Z 64 wr := by
                  rw [hZv]; exact ⟨true, ov, _, cv, rfl, hLv, hcv, lm_glim (by omega) _, by rw [gval_glim (by omega)], h64⟩
                clear hE2 hZ' hsl hFv hZv
                go_wp2_with fail
                refine (view_w _ Z 64 _ (by omega) hN).mono ?_
                rintro e w9 ⟨v9, rfl, hv9, b9⟩
                obtain ⟨o9, c9, rfl, L9, z9, q9⟩ := (hv9 _ hN).below b9
                have hB9 := below_and hBr (Nat.le_refl _) b9
                have kR9 := kRr.below b9 (by have := hbw.size; omega)
                clear r1 r2 r3 r4
                obtain ⟨r1, r2, r3, r4⟩ := id kR9
                go_wp2
                refine bodyPost_ret (v := .tuple #[.agg #[.bool (decide (Z < 0)), .slice o9 (glim 4294967296 Z.natAbs).length c9], .int .i64 0]) (by simp [results, Tryz.results103, go_sem, r1, r2]) rfl ⟨_, rfl, ?_, ?_⟩
                · exact (show IsC _ Z _ _ from ⟨o9, c9, rfl, L9, z9, q9⟩).box kR9
                · exact (hB9.setCell (p := ⟨w.heap.size, 0, none⟩) (by simp) _).setCell (p := ⟨w.heap.size, 1, none⟩) (by simp) _
              · have h64z : (64 : Int) < ((glim 4294967296 (pval d)).length : Int) := by omega
                have hE : Er = 3 := by rw [← hE2.out, if_pos (.inr (by omega))]
                have hZ0 : Z = 0 := by rw [← hZ'.out, hE]; rfl
                subst hE hZ0
                clear hE2 hZ' hsl hFv
                go_wp2
                refine bodyPost_ret (v := .tuple #[.agg #[.bool false, .slice none 0 0], .int .i64 3]) (by simp [results, Tryz.results103, go_sem, r1, r2]) rfl ⟨_, rfl, isC_zero _ _, ?_⟩
                exact (hBr.setCell (p := ⟨w.heap.size, 0, none⟩) (by simp) _).setCell (p := ⟨w.heap.size, 1, none⟩) (by simp) _
      · have h620z : (620 : Int) < (d.length : Int) := by omega
        have hE : Er = 3 := by rw [← hE2.out, if_pos (.inl (by omega))]
        have hZ0 : Z = 0 := by rw [← hZ'.out, hE]; rfl
        subst hE hZ0
        clear hE2 hZ'
        cases ng with
        | false =>
          go_wp2
          refine bodyPost_ret (v := .tuple #[.agg #[.bool false, .slice none 0 0], .int .i64 3]) (by simp [results, Tryz.results103, go_sem, r1, r2]) rfl ⟨_, rfl, isC_zero _ _, ?_⟩
          exact (hB2.setCell (p := ⟨w.heap.size, 0, none⟩) (by simp) _).setCell (p := ⟨w.heap.size, 1, none⟩) (by simp) _
        | true =>
          have hq48 := hfin.out rfl
          go_wp2
          refine bodyPost_ret (v := .tuple #[.agg #[.bool false, .slice none 0 0], .int .i64 3]) (by simp [results, Tryz.results103, go_sem, r1, r2]) rfl ⟨_, rfl, isC_zero _ _, ?_⟩
          exact (hB2.setCell (p := ⟨w.heap.size, 0, none⟩) (by simp) _).setCell (p := ⟨w.heap.size, 1, none⟩) (by simp) _
end Go.Proofs.YtjacoodfhkaioaaGreatDoor
namespace Go.Proofs.YtjacoodfhkaioaaGreatDoor
open Go.ChangeShapes Go.WideShapes Go.ChangeAt Go.RowKit Go.Shelf
set_option linter.unusedSimpArgs false
set_option linter.unusedVariables false
set_option maxRecDepth 2000

/-- a number from 0 to most, as digits -/
def nmB (most : Int) (l : List UInt8) : Bool := pE l == 0 && smlB (pZ l) && decide (smlN (pZ l) ≤ most)
def nmN (most : Int) (l : List UInt8) : Int := if nmB most l then smlN (pZ l) else 0
set_option maxHeartbeats 2000000 in
theorem rdnum_w (g : Nat) (r : List UInt8) (ov : Value) (most : Int) (w : World) (hr : r.length ≤ 1000000) (h : Rdr g r ov w) :
    Calls Tryz.prog 99 #[.pointer (some ⟨g, 0, none⟩), .int .i64 most] w fun e w' => e = .returned (.tuple #[.int .i64 (nmN most (r.takeWhile digB)), .bool (nmB most (r.takeWhile digB))]) ∧ Rdr g (r.dropWhile digB) ov w' ∧ Kpt (fun b => b = g) w w' := by
  have c1 := digits_w g r ov w hr h
  have hDl : (r.takeWhile digB).length ≤ 1000000 := Nat.le_trans (List.takeWhile_prefix digB).length_le hr
  generalize r.takeWhile digB = D at *
  generalize r.dropWhile digB = r' at *
  obtain ⟨RN, hRN⟩ : ∃ RN, nmN most D = RN := ⟨_, rfl⟩
  obtain ⟨RB, hRB⟩ : ∃ RB, nmB most D = RB := ⟨_, rfl⟩
  rw [hRN, hRB]
  have c2 := fun w' => parse_w (bs D) w' (by rw [bs_size]; exact hDl)
  rw [bs_list] at c2
  obtain ⟨E, hE⟩ : ∃ E, pE D = E := ⟨_, rfl⟩
  obtain ⟨Z, hZ⟩ : ∃ Z, pZ D = Z := ⟨_, rfl⟩
  rw [hE, hZ] at c2
  obtain ⟨SN, hSN⟩ : ∃ SN, smlN Z = SN := ⟨_, rfl⟩
  obtain ⟨SB, hSB⟩ : ∃ SB, smlB Z = SB := ⟨_, rfl⟩
  have hB : Hid (RB = (E == 0 && SB && decide (SN ≤ most))) := hid (by rw [← hRB, nmB, hE, hZ, hSN, hSB])
  have hN : Hid (RN = if RB then SN else 0) := hid (by rw [← hRN, nmN, hRB, hZ, hSN])
  have hSH := hid (And.intro hSN hSB)
  clear hRN hRB hE hZ hSN hSB hDl hr h
  go_enter Tryz.func99, Tryz.ntmps99
  go_wp2_with fail
  refine c1.mono ?_
  rintro e w1 ⟨rfl, h1, k1⟩
  go_wp2_with fail
  refine (c2 w1).mono ?_
  rintro e w2 ⟨v2, rfl, hC, b2⟩
  obtain ⟨b, o, n, c, rfl⟩ := hC.shape
  have kc := Box.new w2 (.bool b) (.slice o n c) 115
  obtain ⟨W, hW⟩ : ∃ W, W = w2.alloc (.cells #[.bool b, .slice o n c] 115) := ⟨_, rfl⟩
  rw [← hW] at kc
  have bA : Below w2.heap.size w2 W := by rw [hW]; exact (Below.refl _ w2).alloc (Nat.le_refl _) _
  have bW : Below w1.heap.size w1 W := b2.trans (below_le bA b2.size)
  have hKW := hid (k1.trans (Kpt.of_below (F := fun b => b = g) bW))
  have hRW := hid (h1.below bW)
  have c3 := small_w _ Z 64 W (by omega) (hC.isN.below bA)
  rw [hSH.out.1, hSH.out.2] at c3
  obtain ⟨kc0, kc1, kc2, kc3⟩ := id kc
  have hWH := hid hW
  clear hW hC c1 c2 h1 k1 b2 bA kc
  by_cases hE0 : E = 0
  · subst hE0
    have hBx : Hid (RB = (SB && decide (SN ≤ most))) := hid (by rw [hB.out]; rfl)
    go_upto_region 2 with fail
    rw [← hWH.out]
    go_wp2_with fail
    refine c3.mono ?_
    rintro e w3 ⟨rfl, b3⟩
    have hRR := hid (hRW.out.below b3)
    have hKK := hid (hKW.out.trans (Kpt.of_below b3))
    clear c3
    cases SB with
    | false =>
      have q1 : RB = false := by rw [hBx.out]; rfl
      have q2 : RN = 0 := by rw [hN.out, q1]; rfl
      subst q1 q2
      go_wp2
      go_ret2
      exact ⟨rfl, hRR.out, hKK.out⟩
    | true =>
      by_cases hm : SN ≤ most
      · have q1 : RB = true := by rw [hBx.out]; simp [hm]
        have q2 : RN = SN := by rw [hN.out, q1]; rfl
        have hm2 : ¬ most < SN := by omega
        subst q1 q2
        go_wp2
        go_ret2
        exact ⟨rfl, hRR.out, hKK.out⟩
      · have q1 : RB = false := by rw [hBx.out]; simp [hm]
        have q2 : RN = 0 := by rw [hN.out, q1]; rfl
        have hm2 : most < SN := by omega
        subst q1 q2
        go_wp2
        go_ret2
        exact ⟨rfl, hRR.out, hKK.out⟩
  · have hn : (E != 0) = true := by simp [hE0]
    have q1 : RB = false := by rw [hB.out]; simp [hE0]
    have q2 : RN = 0 := by rw [hN.out, q1]; rfl
    subst q1 q2
    rw [hWH.out] at hKW hRW
    clear c3 kc0 kc1 kc2 kc3
    go_wp2
    go_ret2
    exact ⟨rfl, hRW.out, hKW.out⟩
end Go.Proofs.YtjacoodfhkaioaaGreatDoor
namespace Go.Proofs.YtjacoodfhkaioaaGreatDoor
open Go.ChangeShapes Go.WideShapes Go.ChangeAt Go.RowKit Go.Shelf
set_option linter.unusedSimpArgs false
set_option linter.unusedVariables false
set_option maxRecDepth 2000

/-- what a reader of something without open parts answers: a term of new blocks, or nil -/
def LeafV (B : Nat) (o : Option Tm) (v : Value) (w : World) : Prop :=
  match o with
  | none => v = .nilIface
  | some T => ∃ x, v = .iface 27 x ∧ TV (Zw B w) w T x
def pidL (r : List UInt8) : Option Tm × List UInt8 :=
  if nmB 1073741824 (r.takeWhile digB) then (if skB 62 (r.dropWhile digB) then some (numT 3 (nmN 1073741824 (r.takeWhile digB))) else none, skR 62 (r.dropWhile digB)) else (none, r.dropWhile digB)
def refL (r : List UInt8) : Option Tm × List UInt8 :=
  (if nmB 1073741824 (r.takeWhile digB) then some (numT 2 (nmN 1073741824 (r.takeWhile digB))) else none, r.dropWhile digB)
def intL (m r : List UInt8) : Option Tm × List UInt8 :=
  (if pE (m ++ r.takeWhile digB) = 0 then some (intT (pZ (m ++ r.takeWhile digB))) else none, r.dropWhile digB)
set_option maxHeartbeats 2000000 in
theorem pid_w (g : Nat) (r : List UInt8) (ov : Value) (w : World) (hr : r.length ≤ 1000000) (h : Rdr g r ov w) (hT : Tabs w) (hg : ∀ w', Kpt (fun b => b = g) w w' → Tabs w') :
    Calls Tryz.prog 66 #[.pointer (some ⟨g, 0, none⟩)] w fun e w' => ∃ v, e = .returned v ∧ LeafV w.heap.size (pidL r).1 v w' ∧ Rdr g (pidL r).2 ov w' ∧ Kpt (fun b => b = g) w w' := by
  have c1 := rdnum_w g r ov 1073741824 w hr h
  unfold pidL
  generalize r.takeWhile digB = D at *
  generalize r.dropWhile digB = r' at *
  obtain ⟨RN, hRN⟩ : ∃ RN, nmN 1073741824 D = RN := ⟨_, rfl⟩
  obtain ⟨RB, hRB⟩ : ∃ RB, nmB 1073741824 D = RB := ⟨_, rfl⟩
  rw [hRN, hRB] at c1
  rw [hRN, hRB]
  have c2 := fun w1 h1 k1 => skip_w g r' ov 62 62 rfl (by decide) w1 h1 (hg w1 k1)
  obtain ⟨SB, hSB⟩ : ∃ SB, skB 62 r' = SB := ⟨_, rfl⟩
  obtain ⟨r2, hr2⟩ : ∃ r2, skR 62 r' = r2 := ⟨_, rfl⟩
  rw [hSB, hr2] at c2
  rw [hSB, hr2]
  clear hRN hRB hSB hr2
  go_enter Tryz.func66, Tryz.ntmps66
  go_wp2_with fail
  refine c1.mono ?_
  rintro e w1 ⟨rfl, h1, k1⟩
  cases RB with
  | false =>
    have h1H := hid h1
    have k1H := hid k1
    clear h1 k1 c1 h
    go_wp2
    go_ret
    exact ⟨_, rfl, rfl, h1H.out, k1H.out⟩
  | true =>
    have c2 := c2 w1 h1 k1
    clear c1 h h1
    go_wp2_with fail
    refine c2.mono ?_
    rintro e w2 ⟨rfl, h2, k2⟩
    have h2H := hid h2
    have k2H := hid (k1.trans k2)
    clear c2 k1 k2 h2
    cases SB with
    | false =>
      go_wp2
      go_ret
      exact ⟨_, rfl, rfl, h2H.out, k2H.out⟩
    | true =>
      have c3 := Pid_w RN w2
      go_wp2_with fail
      refine c3.mono ?_
      rintro e w3 ⟨rfl, b3⟩
      go_wp2
      go_ret
      exact ⟨_, rfl, ⟨_, rfl, tv_flat 3 noS RN⟩, h2H.out.below b3, k2H.out.trans (Kpt.of_below b3)⟩
set_option maxHeartbeats 2000000 in
theorem ref_w (g : Nat) (r : List UInt8) (ov : Value) (w : World) (hr : r.length ≤ 1000000) (h : Rdr g r ov w) :
    Calls Tryz.prog 67 #[.pointer (some ⟨g, 0, none⟩)] w fun e w' => ∃ v, e = .returned v ∧ LeafV w.heap.size (refL r).1 v w' ∧ Rdr g (refL r).2 ov w' ∧ Kpt (fun b => b = g) w w' := by
  have c1 := rdnum_w g r ov 1073741824 w hr h
  unfold refL
  generalize r.takeWhile digB = D at *
  generalize r.dropWhile digB = r' at *
  obtain ⟨RN, hRN⟩ : ∃ RN, nmN 1073741824 D = RN := ⟨_, rfl⟩
  obtain ⟨RB, hRB⟩ : ∃ RB, nmB 1073741824 D = RB := ⟨_, rfl⟩
  rw [hRN, hRB] at c1
  rw [hRN, hRB]
  clear hRN hRB
  go_enter Tryz.func67, Tryz.ntmps67
  go_wp2_with fail
  refine c1.mono ?_
  rintro e w1 ⟨rfl, h1, k1⟩
  have h1H := hid h1
  have k1H := hid k1
  clear h1 k1 c1 h
  cases RB with
  | false =>
    go_wp2
    go_ret
    exact ⟨_, rfl, rfl, h1H.out, k1H.out⟩
  | true =>
    have c3 := Ref_w RN w1
    go_wp2_with fail
    refine c3.mono ?_
    rintro e w3 ⟨rfl, b3⟩
    go_wp2
    go_ret
    exact ⟨_, rfl, ⟨_, rfl, tv_flat 2 noS RN⟩, h1H.out.below b3, k1H.out.trans (Kpt.of_below b3)⟩
set_option maxHeartbeats 2000000 in
theorem rdint_w (g : Nat) (m r : List UInt8) (M : ByteArray) (hM : M = bs m) (ov : Value) (w : World) (hm : m.length ≤ 1) (hr : r.length ≤ 900000) (h : Rdr g r ov w) :
    Calls Tryz.prog 68 #[.pointer (some ⟨g, 0, none⟩), .string M] w fun e w' => ∃ v, e = .returned v ∧ LeafV w.heap.size (intL m r).1 v w' ∧ Rdr g (intL m r).2 ov w' ∧ Kpt (fun b => b = g) w w' := by
  subst hM
  have c1 := digits_w g r ov w (by omega) h
  have hDl : (r.takeWhile digB).length ≤ 900000 := Nat.le_trans (List.takeWhile_prefix digB).length_le hr
  unfold intL
  generalize r.takeWhile digB = D at *
  generalize r.dropWhile digB = r' at *
  have c2 := fun w' => parse_w (bs (m ++ D)) w' (by rw [bs_size, List.length_append]; omega)
  rw [bs_list] at c2
  obtain ⟨E, hE⟩ : ∃ E, pE (m ++ D) = E := ⟨_, rfl⟩
  obtain ⟨Z, hZ⟩ : ∃ Z, pZ (m ++ D) = Z := ⟨_, rfl⟩
  rw [hE, hZ] at c2
  rw [hE, hZ]
  obtain ⟨S, hS⟩ : ∃ S, bs (m ++ D) = S := ⟨_, rfl⟩
  have hSS : bs m ++ bs D = S := by rw [bs_cat, hS]
  have hsz : ¬ 9223372036854775807 < (bs m).size + (bs D).size := by rw [bs_size, bs_size]; omega
  rw [hS] at c2
  obtain ⟨D', hD'⟩ : ∃ D', bs D = D' := ⟨_, rfl⟩
  obtain ⟨m', hm'⟩ : ∃ m', bs m = m' := ⟨_, rfl⟩
  rw [hD'] at c1 hSS hsz
  rw [hm'] at hSS hsz ⊢
  clear hE hZ hS hD' hm' hDl hr h hm
  go_enter Tryz.func68, Tryz.ntmps68
  go_wp2_with fail
  refine c1.mono ?_
  rintro e w1 ⟨rfl, h1, k1⟩
  go_wp2_with fail
  refine (c2 w1).mono ?_
  rintro e w2 ⟨v2, rfl, hC, b2⟩
  obtain ⟨b, o, n, c, rfl⟩ := hC.shape
  have kc := Box.new w2 (.bool b) (.slice o n c) 115
  obtain ⟨W, hW⟩ : ∃ W, W = w2.alloc (.cells #[.bool b, .slice o n c] 115) := ⟨_, rfl⟩
  rw [← hW] at kc
  have bA : Below w2.heap.size w2 W := by rw [hW]; exact (Below.refl _ w2).alloc (Nat.le_refl _) _
  have bW : Below w1.heap.size w1 W := b2.trans (below_le bA b2.size)
  have hKW := hid (k1.trans (Kpt.of_below (F := fun b => b = g) bW))
  have hRW := hid (h1.below bW)
  have hzW : w.heap.size ≤ W.heap.size := Nat.le_trans k1.size bW.size
  have hzH := hid hzW
  have c3 := Num_w _ Z 64 W (by omega) (hC.isN.below bA)
  obtain ⟨kc0, kc1, kc2, kc3⟩ := id kc
  have hWH := hid hW
  clear hW hC c1 c2 h1 k1 b2 bA kc hzW
  by_cases hE0 : E = 0
  · subst hE0
    go_upto_region 2 with fail
    rw [← hWH.out]
    go_wp2_with fail
    refine c3.mono ?_
    rintro e w3 ⟨v3, rfl, hT3, _, b3⟩
    have hRR := hid (hRW.out.below b3)
    have hKK := hid (hKW.out.trans (Kpt.of_below b3))
    have hTT := hid (TV.mono (Z' := Zw w.heap.size w3) (fun k hk hz => by have := hzH.out; exact ⟨Nat.le_trans this hz.1, hz.2⟩) _ _ hT3)
    obtain ⟨k', neg', od', ld', cd', nm', n', ol', ll', cl', ob', lb', cb', rfl⟩ := hT3.form
    clear c3 hT3
    go_wp2
    go_ret
    exact ⟨_, rfl, ⟨_, rfl, hTT.out⟩, hRR.out, hKK.out⟩
  · have hn : (E != 0) = true := by simp [hE0]
    rw [hWH.out] at hKW hRW
    clear c3 kc0 kc1 kc2 kc3
    go_wp2
    go_ret
    exact ⟨_, rfl, rfl, hRW.out, hKW.out⟩
end Go.Proofs.YtjacoodfhkaioaaGreatDoor
namespace Go.Proofs.YtjacoodfhkaioaaGreatDoor
open Go.ChangeShapes Go.WideShapes Go.ChangeAt Go.RowKit Go.Shelf
set_option linter.unusedSimpArgs false
set_option linter.unusedVariables false
set_option maxRecDepth 2000

/-- does a sign begin at this byte? -/
def stB (x : Nat) : Bool := x / 64 != 2
set_option maxRecDepth 100000 in
theorem st_bits : ∀ x : Fin 256, (bits .and .u8 ((x.val : Nat) : Int) 192 != 128) = stB x.val := by decide
def nearGo (r : List UInt8) : Nat → Nat
  | 0 => 0
  | k + 1 => match r[k + 1]? with
    | some b => if stB b.toNat then k + 1 else nearGo r k
    | none => k + 1
def nearN (r : List UInt8) : Nat := if r.length ≤ 1277 then r.length else nearGo r 1277
theorem nearGo_le (r : List UInt8) : ∀ k, nearGo r k ≤ k
  | 0 => Nat.le_refl _
  | k + 1 => by
    unfold nearGo
    have := nearGo_le r k
    split
    · split <;> omega
    · omega
set_option maxHeartbeats 2000000 in
theorem near_w (g : Nat) (r : List UInt8) (ov : Value) (w : World) (hr : r.length ≤ 1000000) (h : Rdr g r ov w) (h0 : ∀ b, r[0]? = some b → stB b.toNat = true) :
    Calls Tryz.prog 107 #[.pointer (some ⟨g, 0, none⟩)] w fun e w' => e = .returned (.string (bs (r.take (nearN r)))) ∧ w' = w := by
  obtain ⟨y0, y1, f0, f1⟩ := h.cells
  obtain ⟨R, hR⟩ : ∃ R, bs (r.take (nearN r)) = R := ⟨_, rfl⟩
  rw [hR]
  have hRH := hid hR
  have hsz : (bs r).size = r.length := bs_size r
  have hszH := hid hsz
  have hz0 : ((bs r).size : Int) ≤ 1000000 := by omega
  have hH0 := hid h0
  clear h hR hsz h0
  go_enter Tryz.func107, Tryz.ntmps107
  by_cases hl : r.length ≤ 1277
  · have hmin : min ((bs r).size : Int) 1277 = ((bs r).size : Int) := by have := hszH.out; omega
    have e1 : Hid (bs r = R) := hid (by rw [← hRH.out]; unfold nearN; rw [if_pos hl, List.take_length])
    go_wp2
    go_loopw [3] (fun v wr => v = .int .i64 ((bs r).size : Int) ∧ wr = w) (fun _ _ => 0)
    case atStart => exact ⟨rfl, rfl⟩
    case round =>
      obtain ⟨rfl, rfl⟩ := hrel
      have e2 : (bs r).extract 0 (bs r).size = R := by rw [ex_take, bs_size, List.take_length, e1.out]
      go_wp2
      go_ret
      exact ⟨rfl, rfl⟩
  · have hmin : min ((bs r).size : Int) 1277 = 1277 := by have := hszH.out; omega
    go_wp2
    go_loopw [3] (fun v wr => ∃ k : Nat, v = .int .i64 (k : Int) ∧ k ≤ 1277 ∧ Hid (nearGo r k = nearN r) ∧ wr = w) (fun v _ => (intOf v).toNat)
    case atStart => exact ⟨1277, rfl, Nat.le_refl _, hid (by unfold nearN; rw [if_neg hl]), rfl⟩
    case round =>
      obtain ⟨k, rfl, hk, hN, rfl⟩ := hrel
      have hkr : k < r.length := by omega
      have hks : (k : Int) < ((bs r).size : Int) := by have := hszH.out; omega
      obtain ⟨b, hb⟩ : ∃ b, r[k]? = some b := ⟨r[k]'hkr, by simp⟩
      have hksn : k < (bs r).size := by have := hszH.out; omega
      have hbk : (bs r)[k] = b := by
        have e := hb
        rw [List.getElem?_eq_getElem hkr] at e
        injection e with e
      have hbb := st_bits ⟨(bs r)[k].toNat, (bs r)[k].toNat_lt⟩
      simp only [] at hbb
      rw [show stB (bs r)[k].toNat = stB b.toNat by rw [hbk]] at hbb
      clear hbk
      have hbH := hid hb
      clear hb
      have hkp := hid hk
      cases hst : stB b.toNat with
      | true =>
        have hNk : nearN r = k := by
          rw [← hN.out]
          cases k with
          | zero => rfl
          | succ k => unfold nearGo; rw [hbH.out]; simp [hst]
        have e2 : (bs r).extract 0 k = R := by rw [ex_take, ← hNk, hRH.out]
        rw [hst] at hbb
        clear hNk
        go_wp2
        go_ret
        exact ⟨rfl, rfl⟩
      | false =>
        rw [hst] at hbb
        cases k with
        | zero =>
          have := hH0.out b hbH.out
          rw [hst] at this
          cases this
        | succ k =>
          have hNk : Hid (nearGo r k = nearN r) := hid (by
            rw [← hN.out]
            rw [nearGo, hbH.out]
            simp [hst])
          go_wp2
          exact ⟨⟨k, by go_num, by omega, hNk, trivial⟩, by simp [intOf]⟩
end Go.Proofs.YtjacoodfhkaioaaGreatDoor
