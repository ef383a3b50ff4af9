/- Texts of mine, one behind the other: RunesQuote, TermEvery, TermEv, TermTree, BigDivA, BigSmall2, BigRSmall, TermRoom. -/
import Derived.Test.YtlojfmlaookpmaaGreatDoorSqE
import Derived.Test.YtlojfmlaookpmaaGreatDoorSqD
import Derived.Shelf.Abstract
import Derived.Test.YtlojfmlaookpmaaGreatDoorSqB
import Derived.Test.YtlojfmlaookpmaaGreatDoorSqC
set_option linter.unusedSimpArgs false
set_option linter.unusedVariables false
set_option maxRecDepth 2000
namespace Go.Proofs.YtlojfmlaookpmaaGreatDoor
open Go.ChangeShapes Go.WideShapes Go.ChangeAt Go.RowKit Go.Shelf
def escR (r : Nat) : List Nat :=
 if r = 39 ∨ r = 92 then [92, r] else if r = 10 then [92, 110] else if hiddenB r then 92 :: 120 :: (hex2 r ++ [59]) else [r]
def escs : List Nat → List Nat
 | [] => []
 | r :: t => escR r ++ escs t
def quoteR (rs : List Nat) : List Nat := 39 :: (escs rs ++ [39])
def quoteL (l : List UInt8) : List UInt8 := if Lib.validD l then (if plainB l then l else en (quoteR (sg l))) else []
theorem okR_ascii {r : Nat} (h : r < 128) : okR r := Or.inl (by omega)
theorem hex2_ascii (r : Nat) (h : r < 128) : ∀ x ∈ hex2 r, x < 128 := by
 intro x hx
 unfold hex2 at hx
 split at hx
 · simp at hx; subst hx; exact hexD_lt _ (by omega)
 · simp at hx
   rcases hx with rfl | rfl
   · exact hexD_lt _ (by omega)
   · exact hexD_lt _ (by omega)
theorem hidden_lt {r : Nat} (h : hiddenB r = true) : r < 128 := by simp [hiddenB] at h; omega
theorem okRs_escR (r : Nat) (h : okR r) : okRs (escR r) := by
 intro x hx
 unfold escR at hx
 split at hx
 · simp at hx; rcases hx with rfl | rfl
   · exact okR_ascii (by decide)
   · exact h
 · split at hx
   · simp at hx; rcases hx with rfl | rfl <;> exact okR_ascii (by decide)
   · split at hx
     · rename_i hh
       simp at hx
       rcases hx with rfl | rfl | hx | rfl
       · exact okR_ascii (by decide)
       · exact okR_ascii (by decide)
       · exact okR_ascii (hex2_ascii r (hidden_lt hh) x hx)
       · exact okR_ascii (by decide)
     · simp at hx; subst hx; exact h
theorem okRs_escs : ∀ rs, okRs rs → okRs (escs rs)
 | [], _ => okRs_nil
 | r :: t, h => okRs_append (okRs_escR r (okRs_cons h).1) (okRs_escs t (okRs_cons h).2)
theorem okRs_one {r : Nat} (h : okR r) : okRs [r] := fun x hx => by simp at hx; subst hx; exact h
theorem okRs_quoteR (rs : List Nat) (h : okRs rs) : okRs (quoteR rs) :=
 okRs_append (a := [39]) (okRs_one (okR_ascii (by decide))) (okRs_append (okRs_escs rs h) (okRs_one (okR_ascii (by decide))))
theorem e1_39 : e1 39 = [39] := by decide
theorem en_ascii : ∀ (l : List Nat), (∀ x ∈ l, x < 128) → en l = l.map (·.toUInt8)
 | [], _ => rfl
 | r :: t, h => by
   show e1 r ++ en t = _
   rw [e1_ascii r (h r (by simp)), en_ascii t (fun x hx => h x (by simp [hx]))]
   rfl
theorem en_length_le : ∀ l : List Nat, (en l).length ≤ 4 * l.length
 | [] => by simp [en]
 | r :: t => by
   have h1 := en_length_le t
   have h2 := (e1_length r).2
   simp only [en, List.length_append, List.length_cons]
   omega
theorem hex2_len (r : Nat) : 1 ≤ (hex2 r).length ∧ (hex2 r).length ≤ 2 := by unfold hex2; split <;> simp
theorem escR_len (r : Nat) : 1 ≤ (escR r).length ∧ (escR r).length ≤ 5 := by
 have := hex2_len r
 unfold escR; split
 · simp
 · split
   · simp
   · split
     · simp; omega
     · simp
theorem escs_len : ∀ rs : List Nat, (escs rs).length ≤ 5 * rs.length
 | [] => by simp [escs]
 | r :: t => by
   have := escs_len t
   have := escR_len r
   simp only [escs, List.length_append, List.length_cons]
   omega
theorem kept_of_below {e : TypeId} {b : Option Nat} {w w' : World} (h : Below w.heap.size w w') : Lib.OthersKept e b w w' := fun k o hk _ _ =>
 (h.block k (lt_of_heap hk)).trans hk
theorem tabAt_B {g B : Nat} {tab : List Nat} {w w' : World} (h : TabAt g tab w) (hg : g < B) (hb : Below B w w') : TabAt g tab w' := fun j hj =>
 (hb.cell (p := ⟨g, j, none⟩) hg).trans (h j hj)
theorem writeB_w (B b : Nat) (bs : List UInt8) (c : UInt8) (n : Int) (hn : (c.toNat : Int) = n) (w : World) (h : Bld 143 B b [] [] bs w) (hlen : bs.length + 1 ≤ 140737488355328) (hBw : B ≤ w.heap.size) :
   Calls Tryz.prog 110 #[.pointer (some ⟨b, 0, none⟩), .int .u8 n] w fun e w' => e = .returned .nilIface ∧ Bld 143 B b [] [] (bs ++ [c]) w' ∧ Below B w w' ∧ Lib.OthersKept 5 (some b) w w' := by
 subst hn
 exact writeByte_w _ B b [] [] bs c w h home0 hlen hBw
theorem writeS_w (B b : Nat) (bs : List UInt8) (s : ByteArray) (w : World) (h : Bld 143 B b [] [] bs w) (hs0 : s.data.toList ≠ []) (hlen : bs.length + s.size ≤ 140737488355328) (hBw : B ≤ w.heap.size) :
   Calls Tryz.prog 133 #[.pointer (some ⟨b, 0, none⟩), .string s] w fun e w' => e = .returned (.tuple #[.int .i64 s.size, .nilIface]) ∧ Bld 143 B b [] [] (bs ++ s.data.toList) w' ∧ Below B w w' ∧ Lib.OthersKept 5 (some b) w w' :=
 writeString_w _ B b [] [] bs s w h home0 hs0 hlen hBw
theorem writeR_w (B b : Nat) (bs : List UInt8) (r : Nat) (hr : r ≤ 1114111) (w : World) (h : Bld 143 B b [] [] bs w) (hlen : bs.length + 4 ≤ 140737488355328) (hBw : B ≤ w.heap.size) :
   Calls Tryz.prog 132 #[.pointer (some ⟨b, 0, none⟩), .int .i32 (r : Int)] w fun e w' => e = .returned (.tuple #[.int .i64 (e1 r).length, .nilIface]) ∧ Bld 143 B b [] [] (bs ++ e1 r) w' ∧ Below B w w' ∧ Lib.OthersKept 5 (some b) w w' :=
 writeRune_w _ B b [] [] bs r hr w h home0 hlen hBw
set_option maxHeartbeats 2000000 in
theorem writeSign_w (B b : Nat) (bs : List UInt8) (r : Nat) (hr : r ≤ 1114111) (w : World) (h : Bld 143 B b [] [] bs w) (hlen : bs.length + 8 ≤ 140737488355328) (hBw : B ≤ w.heap.size) (hg : 4 < B) (hT : TabAt 4 Lib.deBruijn64tab w) :
   Calls Tryz.prog 111 #[.pointer (some ⟨b, 0, none⟩), .int .i32 (r : Int)] w fun e w' => e = .returned (.tuple #[]) ∧ Bld 143 B b [] [] (bs ++ en (escR r)) w' ∧ Below B w w' ∧ Lib.OthersKept 5 (some b) w w' := by
 by_cases h1 : r = 39 ∨ r = 92
 · have hesc : en (escR r) = [92] ++ e1 r := by
     unfold escR; rw [if_pos h1]; show e1 92 ++ (e1 r ++ []) = _; rw [List.append_nil]; rfl
   have hz : ((r : Int) == 39) = true ∨ (((r : Int) == 39) = false ∧ ((r : Int) == 92) = true) := by
     rcases h1 with rfl | rfl
     · exact Or.inl rfl
     · exact Or.inr ⟨rfl, rfl⟩
   rw [hesc]
   rcases hz with hz | ⟨hz, hz2⟩
   all_goals
     go_enter Tryz.func111, Tryz.ntmps111
     go_wp2_with (go_at_call 110; refine (writeB_w B b bs 92 92 rfl _ h (by omega) hBw).mono ?_)
     rintro e w1 ⟨rfl, h1, b1, k1⟩
     go_wp2_with (go_at_call 132; refine (writeR_w B b _ r hr _ h1 (by simp; omega) (by have := b1.size; omega)).mono ?_)
     rintro e w2 ⟨rfl, h2, b2, k2⟩
     go_wp2
     go_end0
     exact ⟨rfl, by simpa using h2, b1.trans b2, k1.trans k2⟩
 · have a1 : ((r : Int) == 39) = false := by simp; omega
   have a2 : ((r : Int) == 92) = false := by simp; omega
   by_cases h2 : r = 10
   · have hesc : en (escR r) = [92, 110] := by subst h2; decide
     have a3 : ((r : Int) == 10) = true := by subst h2; rfl
     rw [hesc]
     go_enter Tryz.func111, Tryz.ntmps111
     go_wp2_with fail
     refine (writeS_w B b bs ⟨#[92, 110]⟩ _ h (by simp) (by have : (⟨#[92, 110]⟩ : ByteArray).size = 2 := rfl; omega) hBw).mono ?_
     rintro e w1 ⟨rfl, h1, b1, k1⟩
     go_wp2
     go_end0
     exact ⟨rfl, h1, b1, k1⟩
   · have a3 : ((r : Int) == 10) = false := by simp; omega
     cases hh : hiddenB r with
     | true =>
       have hlt := hidden_lt hh
       have hesc : en (escR r) = [92, 120] ++ (en (hex2 r) ++ [59]) := by
         unfold escR
         rw [if_neg h1, if_neg h2, if_pos hh]
         show e1 92 ++ (e1 120 ++ en (hex2 r ++ [59])) = _
         rw [en_append, en_one]
         rfl
       have hxl := hex2_len r
       have hxb : (en (hex2 r)).length ≤ 2 := by rw [en_ascii _ (hex2_ascii r hlt)]; simp; omega
       have hxn : en (hex2 r) ≠ [] := by
         intro e; rw [en_eq_nil] at e; rw [e] at hxl; simp at hxl
       have hxs : (⟨(en (hex2 r)).toArray⟩ : ByteArray).size = (en (hex2 r)).length := rfl
       rw [hesc]
       go_enter Tryz.func111, Tryz.ntmps111
       go_wp2_with (go_at_call 134; refine (hidden_w _ _).mono ?_; rintro e w1 ⟨rfl, rfl⟩)
       refine (writeS_w B b bs ⟨#[92, 120]⟩ _ h (by simp) (by have : (⟨#[92, 120]⟩ : ByteArray).size = 2 := rfl; omega) hBw).mono ?_
       rintro e w1 ⟨rfl, h1, b1, k1⟩
       have s1 := b1.size
       have hT1 := tabAt_B hT hg b1
       go_wp2_with (go_at_call 135; refine (formatInt_w r hlt _ hT1).mono ?_)
       rintro e w2 ⟨rfl, b2⟩
       have s2 := b2.size
       have h2 := h1.below b2
       go_wp2_with fail
       refine (writeS_w B b _ _ _ h2 hxn (by rw [hxs]; simp; omega) (by omega)).mono ?_
       rintro e w3 ⟨rfl, h3, b3, k3⟩
       have s3 := b3.size
       go_wp2_with (go_at_call 110; refine (writeB_w B b _ 59 59 rfl _ h3 (by simp; omega) (by omega)).mono ?_)
       rintro e w4 ⟨rfl, h4, b4, k4⟩
       go_wp2
       go_end0
       refine ⟨rfl, ?_, ((b1.trans (below_le b2 (by omega))).trans b3).trans b4, ((k1.trans (kept_of_below b2)).trans k3).trans k4⟩
       simpa using h4
     | false =>
       have hesc : en (escR r) = e1 r := by
         unfold escR
         rw [if_neg h1, if_neg h2, if_neg (by simp [hh]), en_one]
       rw [hesc]
       go_enter Tryz.func111, Tryz.ntmps111
       go_wp2_with (go_at_call 134; refine (hidden_w _ _).mono ?_; rintro e w1 ⟨rfl, rfl⟩)
       refine (writeR_w B b _ r hr _ h (by omega) hBw).mono ?_
       rintro e w2 ⟨rfl, h2, b2, k2⟩
       go_wp2
       go_end0
       exact ⟨rfl, h2, b2, k2⟩
def TabsQ (w : World) : Prop := Lib.Utf8Tabs 0 1 w ∧ TabAt 4 Lib.deBruijn64tab w
theorem TabsQ.below {w w' : World} (h : TabsQ w) (hb : Below w.heap.size w w') : TabsQ w' := ⟨Utf8Tabs_below h.1 hb, tabAt_below h.2 hb⟩
theorem TabsQ.lt {w : World} (h : TabsQ w) : 4 < w.heap.size := World.block_lt_of_cell? _ _ (h.2 0 (by decide))
theorem Bld.fresh (w : World) : Bld 143 w.heap.size w.heap.size [] [] [] (w.alloc (.cells #[.pointer none, .slice none 0 0] 143)) :=
 ⟨Nat.le_refl _, by decide, _, _, Or.inl rfl, Go.heap_alloc_new w _, World.ownsRowF_nil _ _ _ _, fun _ => rfl⟩
set_option maxHeartbeats 2000000 in
theorem quote_w (s : ByteArray) (w : World) (hs : s.size ≤ 1000000) (hT : TabsQ w) :
   Calls Tryz.prog 79 #[.string s] w fun e w' => e = .returned (.string ⟨(quoteL s.data.toList).toArray⟩) ∧ Below w.heap.size w w' := by
 obtain ⟨R, hR⟩ : ∃ R, quoteL s.data.toList = R := ⟨_, rfl⟩
 rw [hR]
 unfold quoteL at hR
 by_cases hv : Lib.validD s.data.toList = true
 · rw [if_pos hv] at hR
   by_cases hp : plainB s.data.toList = true
   · rw [if_pos hp] at hR
     subst hR
     go_enter Tryz.func79, Tryz.ntmps79
     go_wp2_with (go_at_call 13; refine (valid_w s _ (by omega) hT.1).mono ?_; rintro e w1 ⟨rfl, b1⟩)
     refine (plain_w s _).mono ?_
     rintro e w2 ⟨rfl, b2⟩
     go_wp2_with fail
     refine (sclone_w s _ (by omega)).mono ?_
     rintro e w3 ⟨rfl, b3⟩
     go_wp2
     go_ret
     have s1 := b1.size
     have s2 := b2.size
     exact ⟨by simp, (b1.trans (below_le b2 (by omega))).trans (below_le b3 (by omega))⟩
   · rw [if_neg hp] at hR
     have hp' : plainB s.data.toList = false := by simpa using hp
     go_enter Tryz.func79, Tryz.ntmps79
     go_wp2_with (go_at_call 13; refine (valid_w s _ (by omega) hT.1).mono ?_; rintro e w1 ⟨rfl, b1⟩)
     have s1 := b1.size
     have hT1 := hT.below b1
     refine (plain_w s _).mono ?_
     rintro e w2 ⟨rfl, b2⟩
     have s2 := b2.size
     have hT2 := hT1.below b2
     have hg := hT2.lt
     have B2 : Below w.heap.size w w2 := b1.trans (below_le b2 (by omega))
     clear hT1 hT b1 b2
     go_wp2_with fail
     refine (writeB_w w2.heap.size w2.heap.size [] 39 39 rfl _ (Bld.fresh w2) (by simp) (by simp)).mono ?_
     rintro e w3 ⟨rfl, h3, b3, k3⟩
     have s3 := b3.size
     have s2a : (w2.alloc (.cells #[.pointer none, .slice none 0 0] 143)).heap.size = w2.heap.size + 1 := by simp
     rw [s2a] at s3
     have B3 : Below w2.heap.size w2 w3 := ((Below.refl _ w2).alloc (Nat.le_refl _) _).trans b3
     go_wp2
     go_loopw [] (fun wr => ∃ (pos : Nat) (acc : List UInt8), Bld 143 w2.heap.size w2.heap.size [] [] acc wr ∧ wr.heap[w3.heap.size]? = some (.stringIter s pos) ∧ Below w2.heap.size w2 wr ∧ pos ≤ s.size + 4 ∧ acc.length ≤ 1 + 20 * pos ∧ Hid (acc ++ en (escs (sg (s.data.toList.drop pos))) = 39 :: en (escs (sg s.data.toList)))) (fun wr => s.size - wr.iterPos w3.heap.size)
     case atStart =>
       exact ⟨0, [39], h3.alloc _, World.iter_heap w3 s 0, B3.alloc (by omega) _, by omega, by simp, hid (by simp)⟩
     case round =>
       obtain ⟨pos, acc, hI, hit, hbw, hpz, hal, hH⟩ := hrel
       have hszr : w3.heap.size < wr.heap.size := lt_of_heap hit
       by_cases hp : pos < s.size
       · have hnx : ∀ ty, (Instr.next (.pointer (some ⟨w3.heap.size, 0, none⟩)) true ty).run Tryz.prog wr = _ := fun ty => Lib.run_next_any_at wr w3.heap.size s pos ty hit hp
         have hwd := Lib.width_pos s pos
         have hw4 : (Utf8.decode s pos).2 ≤ 4 := by
           rw [Lib.decode_at]
           rcases Lib.decodeN_shape (s.size - pos) (s.get! pos).toNat (s.get! (pos + 1)).toNat (s.get! (pos + 2)).toNat (s.get! (pos + 3)).toNat with ⟨_, e⟩ | ⟨_, _, _, _, e⟩ | ⟨_, _, _, _, _, _, e⟩ | ⟨_, _, _, _, _, _, _, e⟩ | e
           all_goals (rw [e]; dsimp only; omega)
         have hrl := Lib.rune_le s pos
         have hit2 := Lib.iterAt_heap wr w3.heap.size s pos (pos + (Utf8.decode s pos).2) hit
         have hbw2 := Lib.below_iterAt hbw (k := w3.heap.size) (by omega) s (pos + (Utf8.decode s pos).2)
         have hI2 := hI.iterAt hit (pos + (Utf8.decode s pos).2)
         have hsz2 : w2.heap.size ≤ (wr.iterAt w3.heap.size s (pos + (Utf8.decode s pos).2)).heap.size := by rw [Lib.iterAt_size]; omega
         have hTr := tabAt_B hT2.2 hg hbw2
         have hst : Hid (sg (s.data.toList.drop pos) = _) := hid (sg_at s pos hp)
         go_wp2_with fail
         refine (writeSign_w w2.heap.size w2.heap.size acc (Utf8.decode s pos).1 hrl _ hI2 (by omega) hsz2 hg hTr).mono ?_
         rintro e W1 ⟨rfl, h1, bb1, k1⟩
         go_wp2
         go_roundw
         case rel =>
           have hl5 := escR_len (Utf8.decode s pos).1
           have hl20 := en_length_le (escR (Utf8.decode s pos).1)
           refine ⟨pos + (Utf8.decode s pos).2, _, h1, k1.iter hit2 (by omega), hbw2.trans bb1, by omega, by rw [List.length_append]; omega, hid ?_⟩
           have h1 := hH.out
           rw [hst.out] at h1
           rw [← h1]
           simp [escs, en_append]
         case measure =>
           simp only [World.iterPos, k1.iter hit2 (by omega), hit]
           omega
       · have hnx : ∀ ty, (Instr.next (.pointer (some ⟨w3.heap.size, 0, none⟩)) true ty).run Tryz.prog wr = _ := fun ty => Lib.run_next_end_at wr w3.heap.size s pos ty hit hp
         have hacc := hH.out
         rw [sg_end s pos hp] at hacc
         simp only [escs, en, List.append_nil] at hacc
         go_wp2_with fail
         refine (writeB_w w2.heap.size w2.heap.size acc 39 39 rfl _ hI (by omega) (by omega)).mono ?_
         rintro e W1 ⟨rfl, h1, bb1, k1⟩
         go_wp2_with fail
         refine (string_w _ w2.heap.size w2.heap.size [] [] _ _ h1).mono ?_
         rintro e W2 ⟨rfl, bb2⟩
         go_wp2
         go_ret
         have hfin : R = 39 :: (en (escs (sg s.data.toList)) ++ [39]) := by
           rw [← hR]
           show e1 39 ++ en (escs (sg s.data.toList) ++ [39]) = _
           rw [en_append, en_one]; rfl
         rw [hfin]
         exact ⟨rfl, B2.trans (below_le ((hbw.trans bb1).trans bb2) (by omega))⟩
 · rw [if_neg hv] at hR
   subst hR
   have hv' : Lib.validD s.data.toList = false := by simpa using hv
   go_enter Tryz.func79, Tryz.ntmps79
   go_wp2_with (go_at_call 13; refine (valid_w s _ (by omega) hT.1).mono ?_; rintro e w1 ⟨rfl, b1⟩)
   go_ret
   exact ⟨rfl, b1⟩
end Go.Proofs.YtlojfmlaookpmaaGreatDoor
namespace Go.Proofs.YtlojfmlaookpmaaGreatDoor
open Go.ChangeShapes Go.WideShapes Go.ChangeAt Go.RowKit
theorem infoR : (Tryz.prog.info? 24).map (fun i => (i.zero, i.size, i.bytes)) = some (some (.slice none 0 0), 1, 24) := by kernel_rfl
theorem fld5 (k : Int) (neg : Bool) (D : Value) (nm : ByteArray) (n : Int) (o : Option Addr) (a c : Nat) (B : Value) (w : World) : (Instr.field 27 (.agg #[.int .i64 k, .bool neg, D, .string nm, .int .i64 n, .slice o a c, B]) 5).run Tryz.prog w = .ok (.slice o a c) w := by kernel_rfl
structure Rw where
 o : Option Addr
 c : Nat
 l : List Tm
def Rw.val (r : Rw) : Value := .slice r.o r.l.length r.c
def flat : List Rw → List Tm
 | [] => []
 | r :: st => partsL r.l ++ flat st
def StOk (Z : Nat → Prop) (w : World) : Nat → List Rw → Prop
 | _, [] => True
 | e, r :: st => r.l ≠ [] ∧ r.l.length ≤ r.c ∧ TR Z w r.l r.o ∧ depL r.l ≤ e ∧ StOk Z w (e + 1) st
theorem StOk.zs {Z : Nat → Prop} {w w' : World} (hb : Zs Z w w') : ∀ (e : Nat) (st : List Rw), StOk Z w e st → StOk Z w' e st
 | _, [], _ => trivial
 | e, r :: st, h => ⟨h.1, h.2.1, TR.zs hb _ _ h.2.2.1, h.2.2.2.1, StOk.zs hb (e + 1) st h.2.2.2.2⟩
theorem own_take1 {w : World} {B : Nat} {e : TypeId} {g m cap : Nat} {xs : List Value} {x : Value} (h : w.ownsRow B e 1 (.slice (some ⟨g, 0, none⟩) (m + 1) cap) (m + 1) (xs ++ [x])) :
   w.ownsRow B e 1 (.slice (some ⟨g, 0, none⟩) m cap) m xs ∧ w.cell? ⟨g, m, none⟩ = some x ∧ B ≤ g ∧ g < w.heap.size ∧ m + 1 ≤ cap := by
 obtain ⟨h1, ⟨h2, _⟩ | ⟨g', cap', cur, h2, hB, hg, hn, hm, hs, ht⟩⟩ := h
 · simp at h2
 · simp only [Value.slice.injEq, Option.some.injEq, Addr.mk.injEq, and_true, true_and] at h2
   obtain ⟨rfl, rfl⟩ := h2
   have hl : xs.length = m := by simp at h1; omega
   have e1 : cur.toList.take (m * 1) = xs := by
     have := congrArg (List.take m) ht
     rw [List.take_take, Nat.min_eq_left (by omega)] at this
     rw [Nat.mul_one, this]
     simp [← hl]
   refine ⟨⟨by omega, .inr ⟨g, cap, cur, rfl, hB, hg, by omega, hm, hs, e1⟩⟩, ?_, hB, (Array.getElem?_eq_some_iff.1 hg).1, hn⟩
   have hc : w.cell? ⟨g, m, none⟩ = cur[m]? := by simp [World.cell?, hg]
   rw [hc, ← Array.getElem?_toList]
   have := congrArg (·[m]?) ht
   simp only [List.getElem?_take, Nat.mul_one] at this
   rw [if_pos (by omega)] at this
   rw [this, List.getElem?_append_right (by omega)]
   simp [hl]
theorem own_shape {w : World} {B : Nat} {e : TypeId} {v : Value} {m : Nat} {xs : List Value} (h : w.ownsRow B e 1 v m xs) : ∃ o cap, v = .slice o m cap ∧ (0 < m → ∃ g, o = some ⟨g, 0, none⟩) := by
 obtain ⟨h1, ⟨h2, rfl⟩ | ⟨g', cap', cur, h2, _⟩⟩ := h
 · exact ⟨none, 0, h2, fun h => by omega⟩
 · exact ⟨_, cap', h2, fun _ => ⟨g', rfl⟩⟩
theorem own_kept {w w' : World} {F : Nat → Prop} {B : Nat} {e : TypeId} {v : Value} {m : Nat} {xs : List Value} (h : w.ownsRow B e 1 v m xs) (hk : Kept F w w') (hF : ∀ k, F k → k < B) : w'.ownsRow B e 1 v m xs := by
 obtain ⟨h1, h2 | ⟨g', cap', cur, h2, hB, hg, rest⟩⟩ := h
 · exact ⟨h1, .inl h2⟩
 · exact ⟨h1, .inr ⟨g', cap', cur, h2, hB, (hk.block g' (Array.getElem?_eq_some_iff.1 hg).1 (fun hf => by have := hF _ hf; omega)).trans hg, rest⟩⟩
theorem prV_row {Z : Nat → Prop} {w : World} {k : Int} {neg : Bool} {d : List Nat} {nm : ByteArray} {n : Int} {l : List Tm} {b : List Nat} {od ol ob : Option Addr} {cd cl cb : Nat} (hc : l.length ≤ cl) (hr : TR Z w l ol) :
   ∃ k' neg' od' ld' cd' nm' n' ok ck ob' lb' cb', prV k neg (.slice od d.length cd) nm n (.slice ol l.length cl) (.slice ob b.length cb) = tmV k' neg' (.slice od' ld' cd') nm' n' (.slice ok (Tm.mk k neg d nm n l b).kids.length ck) (.slice ob' lb' cb') ∧ (Tm.mk k neg d nm n l b).kids.length ≤ ck ∧ TR Z w (Tm.mk k neg d nm n l b).kids ok := by
 unfold prV Tm.kids
 by_cases h0 : k = 0
 · subst h0; exact ⟨_, _, _, _, _, _, _, none, 0, _, _, _, rfl, by simp, by simp [TR]⟩
 by_cases h1 : k = 1
 · subst h1; exact ⟨_, _, _, _, _, _, _, none, 0, _, _, _, rfl, by simp, by simp [TR]⟩
 by_cases h2 : k = 2
 · subst h2; exact ⟨_, _, _, _, _, _, _, none, 0, _, _, _, rfl, by simp, by simp [TR]⟩
 by_cases h3 : k = 3
 · subst h3; exact ⟨_, _, _, _, _, _, _, none, 0, _, _, _, rfl, by simp, by simp [TR]⟩
 by_cases h4 : k = 4
 · subst h4; exact ⟨_, _, _, _, _, _, _, ol, cl, _, _, _, rfl, by simpa using hc, by simpa using hr⟩
 by_cases h6 : k = 6
 · subst h6; exact ⟨_, _, _, _, _, _, _, ol, cl, _, _, _, rfl, by simpa using hc, by simpa using hr⟩
 by_cases h7 : k = 7
 · subst h7; exact ⟨_, _, _, _, _, _, _, none, 0, _, _, _, rfl, by simp, by simp [TR]⟩
 simp only [h0, h1, h2, h3, h4, h6, h7, if_false, or_self]
 exact ⟨_, _, _, _, _, _, _, none, 0, _, _, _, rfl, by simp, by simp [TR]⟩
open Go.Shelf
theorem At7.tm {a : Addr} {k : Int} {neg : Bool} {D : Value} {nm : ByteArray} {n : Int} {L B : Value} {w : World} (h : At7 a (tmV k neg D nm n L B) w) : w.cell? a = some (.int .i64 k) ∧ w.cell? ⟨a.block, a.off + 1, none⟩ = some (.bool neg) ∧ w.cell? ⟨a.block, a.off + 2, none⟩ = some D ∧ w.cell? ⟨a.block, a.off + 3, none⟩ = some (.string nm) ∧ w.cell? ⟨a.block, a.off + 4, none⟩ = some (.int .i64 n) ∧ w.cell? ⟨a.block, a.off + 5, none⟩ = some L ∧ w.cell? ⟨a.block, a.off + 6, none⟩ = some B := by
 obtain ⟨a0, a1, a2, a3, a4, a5, a6, e, h⟩ := h
 simp only [Value.agg.injEq, Array.mk.injEq, List.cons.injEq, and_true] at e
 obtain ⟨rfl, rfl, rfl, rfl, rfl, rfl, rfl⟩ := e
 exact h
theorem hstart {w : World} {F : Nat → Prop} {k : Int} {neg : Bool} {d : List Nat} {nm : ByteArray} {n : Int} {l : List Tm} {b : List Nat} {od ol ob : Option Addr} {cd cl cb : Nat} {t : TypeId}
   (hT : TV (fun k => k < w.heap.size ∧ ¬ F k) w (.mk k neg d nm n l b) (tmV k neg (.slice od d.length cd) nm n (.slice ol l.length cl) (.slice ob b.length cb))) :
   ∀ W0, W0 = (((w.alloc (.cells #[.int .i64 k, .bool neg, .slice od d.length cd, .string nm, .int .i64 n, .slice ol l.length cl, .slice ob b.length cb] t)).alloc (.cells #[.int .i64 k, .bool neg, .slice od d.length cd, .string nm, .int .i64 n, .slice ol l.length cl, .slice ob b.length cb] t)).alloc (.cells #[.slice (some ⟨w.heap.size + 1, 0, none⟩) 1 1] 24)) →
   Below w.heap.size w W0 ∧ W0.heap.size = w.heap.size + 3 ∧ W0.ownsRow (w.heap.size + 2) 24 1 (.slice (some ⟨w.heap.size + 2, 0, none⟩) 1 1) 1 [.slice (some ⟨w.heap.size + 1, 0, none⟩) 1 1] ∧ TR (fun k => (k < w.heap.size ∧ ¬ F k) ∨ k = w.heap.size + 1) W0 [.mk k neg d nm n l b] (some ⟨w.heap.size + 1, 0, none⟩) := by
 rintro W0 rfl
 have hB : Below w.heap.size w (((w.alloc (.cells #[.int .i64 k, .bool neg, .slice od d.length cd, .string nm, .int .i64 n, .slice ol l.length cl, .slice ob b.length cb] t)).alloc (.cells #[.int .i64 k, .bool neg, .slice od d.length cd, .string nm, .int .i64 n, .slice ol l.length cl, .slice ob b.length cb] t)).alloc (.cells #[.slice (some ⟨w.heap.size + 1, 0, none⟩) 1 1] 24)) :=
   (((Below.refl _ w).alloc (Nat.le_refl _) _).alloc (by simp) _).alloc (by simp; omega) _
 refine ⟨hB, by simp, ?_, ?_⟩
 · have := World.ownsRow_lit (e := 24) (size := 1) (base := w.heap.size + 2) ((w.alloc (.cells #[.int .i64 k, .bool neg, .slice od d.length cd, .string nm, .int .i64 n, .slice ol l.length cl, .slice ob b.length cb] t)).alloc (.cells #[.int .i64 k, .bool neg, .slice od d.length cd, .string nm, .int .i64 n, .slice ol l.length cl, .slice ob b.length cb] t)) #[.slice (some ⟨w.heap.size + 1, 0, none⟩) 1 1] 1 (by simp) (by simp [maxLen]) (by simp)
   simpa using this
 · unfold TR
   refine ⟨_, tmV k neg (.slice od d.length cd) nm n (.slice ol l.length cl) (.slice ob b.length cb), rfl, .inr rfl, ?_, ?_, by unfold TR; trivial⟩
   · have hbx := (Bx.new (w.alloc (.cells #[.int .i64 k, .bool neg, .slice od d.length cd, .string nm, .int .i64 n, .slice ol l.length cl, .slice ob b.length cb] t)) (.int .i64 k) (.bool neg) (.slice od d.length cd) (.string nm) (.int .i64 n) (.slice ol l.length cl) (.slice ob b.length cb) t).below ((Below.refl _ _).alloc (Nat.le_refl _) (.cells #[.slice (some ⟨w.heap.size + 1, 0, none⟩) 1 1] 24))
     rw [World.size_alloc] at hbx
     exact ⟨_, _, _, _, _, _, _, rfl, hbx.c0, by simpa [addr_add] using hbx.c1, by simpa [addr_add] using hbx.c2, by simpa [addr_add] using hbx.c3, by simpa [addr_add] using hbx.c4, by simpa [addr_add] using hbx.c5, by simpa [addr_add] using hbx.c6⟩
   · refine TV.mono (fun k _ h => .inl h) _ _ (TV.zs (fun k hk => hB.block k hk.1) _ _ hT)
abbrev ZZ (F : Nat → Prop) (S : Nat) : Nat → Prop := fun k => (k < S ∧ ¬ F k) ∨ k = S + 1
theorem zz_kept {F : Nat → Prop} {S : Nat} {w w' : World} (h : Kept F w w') (hS : S + 3 ≤ w.heap.size) (hF : ∀ k, F k → k < S) : Zs (ZZ F S) w w' := fun k hk => by
 rcases hk with ⟨h1, h2⟩ | rfl
 · exact h.block k (by omega) h2
 · exact h.block _ (by omega) (fun hf => by have := hF _ hf; omega)
theorem zz_high {F : Nat → Prop} {S : Nat} {w w' : World} (h : Kept (fun k => S + 2 ≤ k) w w') (hS : S + 3 ≤ w.heap.size) : Zs (ZZ F S) w w' := fun k hk => by
 rcases hk with ⟨h1, h2⟩ | rfl
 · exact h.block k (by omega) (by omega)
 · exact h.block _ (by omega) (by omega)
theorem tv_zz {F : Nat → Prop} {S : Nat} {w : World} {t : Tm} {v : Value} (h : TV (ZZ F S) w t v) (hF : ∀ k, F k → k < S) : TV (fun k => k < w.heap.size ∧ ¬ F k) w t v := TV.mono (fun k hk hz => ⟨hk, by
 rcases hz with ⟨h1, h2⟩ | rfl
 · exact h2
 · exact fun hf => by have := hF _ hf; omega⟩) _ _ h
theorem drop_step {PT : List Tm} {k : Nat} {t : Tm} {r : List Tm} (h : PT.drop k = t :: r) : PT[k]? = some t ∧ PT.drop (k + 1) = r ∧ k + 1 ≤ PT.length := by
 have h1 : k < PT.length := by
   rcases Nat.lt_or_ge k PT.length with h1 | h1
   · exact h1
   · rw [List.drop_eq_nil_of_le h1] at h; simp at h
 have h2 := List.drop_eq_getElem_cons h1
 rw [h] at h2
 injection h2 with h3 h4
 exact ⟨by rw [h3]; simp [h1], h4.symm, h1⟩
set_option maxHeartbeats 4000000 in
set_option maxRecDepth 4000 in
theorem every_w (fn : Nat) (caps : Array Value) (hen : Enters Tryz.prog fn) (F : Nat → Prop) (P : Nat → World → Prop) (ans : Nat → Bool) (T : Tm) (v : Value) (w : World) (D : Nat) (hD : dep T ≤ D) (hD2 : D ≤ 1000000)
   (hT : TV (fun k => k < w.heap.size ∧ ¬ F k) w T v) (hF : ∀ k, F k → k < w.heap.size) (hP0 : P 0 w)
   (hP : ∀ k w1 w2, P k w1 → (∀ i, F i → w2.heap[i]? = w1.heap[i]?) → P k w2)
   (hstep : ∀ (k : Nat) (p : Tm) (x : Value) (w1 : World), (parts T)[k]? = some p → (∀ j, j < k → ans j = true) → TV (fun k => k < w1.heap.size ∧ ¬ F k) w1 p x → Kept F w w1 → P k w1 → Calls Tryz.prog fn (#[x] ++ caps) w1 fun e w2 => e = .returned (.bool (ans k)) ∧ P (k + 1) w2 ∧ Kept F w1 w2) :
   Calls Tryz.prog 26 #[v, .func (.func fn) #[] caps] w fun e w' => Kept F w w' ∧ ((e = .returned (.bool true) ∧ (∀ j, j < (parts T).length → ans j = true) ∧ P (parts T).length w') ∨ ∃ k, k < (parts T).length ∧ (∀ j, j < k → ans j = true) ∧ ans k = false ∧ e = .returned (.bool false) ∧ P (k + 1) w') := by
 obtain ⟨PT, hPT⟩ : ∃ PT, parts T = PT := ⟨_, rfl⟩
 have hPT0 : Hid (PT = partsL [T]) := hid (by rw [← hPT]; simp [partsL])
 have hdT : Hid (depL [T] ≤ D) := hid (by simp [depL]; exact hD)
 rw [hPT] at hstep ⊢
 have hHP := hid hP
 have hHS := hid hstep
 have hen' : ∀ (args : Array Value) (w : World), (callFunc fn args).run Tryz.prog w = .ok (.enter fn args) w := hen
 clear hP hstep hPT hen hD
 have hfld := fld5
 cases T with | mk k neg d nm n l b =>
 have hT' := hT
 unfold TV at hT
 obtain ⟨od, cd, ol, cl, ob, cb, rfl, _⟩ := hT
 have hst := hstart (t := 27) hT'
 clear hT'
 obtain ⟨i0, hi, hz0, hz1, hz2⟩ := info_parts infoR
 go_enter Tryz.func26, Tryz.ntmps26
 go_wp2_with fail
 generalize hW : (((w.alloc (.cells #[.int .i64 k, .bool neg, .slice od d.length cd, .string nm, .int .i64 n, .slice ol l.length cl, .slice ob b.length cb] 27)).alloc (.cells #[.int .i64 k, .bool neg, .slice od d.length cd, .string nm, .int .i64 n, .slice ol l.length cl, .slice ob b.length cb] 27)).alloc (.cells #[.slice (some ⟨w.heap.size + 1, 0, none⟩) 1 1] 24)) = W0
 obtain ⟨hB0, hS0, hO0, hR0⟩ := hst W0 hW.symm
 clear hst hW
 go_loopg [5] PT.length (fun t v5 wr => ∃ (st : List Rw) (k e : Nat), t = (flat st).length ∧ Hid (PT.drop k = flat st ∧ k ≤ PT.length ∧ ∀ j, j < k → ans j = true) ∧ StOk (fun k => (k < w.heap.size ∧ ¬ F k) ∨ k = w.heap.size + 1) wr e st ∧ st.length + e ≤ D + 1 ∧ wr.ownsRow (w.heap.size + 2) 24 1 v5 st.length (st.map Rw.val).reverse ∧ Kept F w wr ∧ P k wr ∧ w.heap.size + 3 ≤ wr.heap.size)
 case atStart =>
   refine ⟨[⟨some ⟨w.heap.size + 1, 0, none⟩, 1, [.mk k neg d nm n l b]⟩], 0, D, ?_, hid ⟨?_, by omega, fun j hj => by omega⟩, ⟨by simp, by simp, hR0, hdT.out, trivial⟩, by simp; omega, by simpa [Rw.val] using hO0, Kept.of_below hB0, hHP.out 0 w W0 hP0 (fun i hi => hB0.block i (hF i hi)), by omega⟩
   · rw [hPT0.out]; simp [flat]
   · rw [hPT0.out]; simp [flat]
 case round =>
   obtain ⟨st, kk, e, rfl, hH, hSt, hle, hOw, hK, hPk, hsz⟩ := hrel
   clear hB0 hO0 hR0 hS0 hP0
   cases st with
   | nil =>
     obtain ⟨o5, c5, rfl, _⟩ := own_shape hOw
     have hq : Hid (kk = PT.length) := hid (by
       have h1 := hH.out.1
       have h2 := hH.out.2.1
       simp only [flat] at h1
       have := List.drop_eq_nil_iff.1 h1
       omega)
     clear hOw hSt
     go_wp2
     go_ret
     exact ⟨hK, .inl ⟨rfl, fun j hj => hH.out.2.2 j (by rw [hq.out]; exact hj), by rw [← hq.out]; exact hPk⟩⟩
   | cons r st =>
     obtain ⟨ro, rc, rl⟩ := r
     obtain ⟨hne, hrc, hTR, hdr, hSt'⟩ := hSt
     simp only at hne hrc hTR hdr
     cases rl with
     | nil => exact absurd rfl hne
     | cons t rest =>
     clear hne
     unfold TR at hTR
     obtain ⟨a, v, rfl, hZa, hAt, hTV, hTRr⟩ := hTR
     cases t with | mk tk tneg td tnm tn tl tb =>
     have hTV' := hTV
     unfold TV at hTV
     obtain ⟨tod, tcd, tol, tcl, tob, tcb, rfl, _, _, _, _, _, htl, htR⟩ := hTV
     obtain ⟨x0, x1, x2, x3, x4, x5, x6⟩ := hAt.tm
     obtain ⟨o5, c5, rfl, ho5⟩ := own_shape hOw
     obtain ⟨g, rfl⟩ := ho5 (by simp)
     clear ho5
     simp only [List.map_cons, List.reverse_cons, List.length_cons] at hOw
     obtain ⟨hOw', hcell, hBg, hgl, hc5⟩ := own_take1 hOw
     clear hOw
     unfold Rw.val at hcell
     simp only [List.length_cons] at hcell hrc
     by_cases hr1 : rest = []
     · subst hr1
       simp only [List.length_cons, List.length_nil] at *
       have hfl : Hid (PT.drop kk = Tm.mk tk tneg td tnm tn tl tb :: (partsL (Tm.mk tk tneg td tnm tn tl tb).kids ++ flat st)) := hid (by rw [hH.out.1]; simp [flat, partsL, parts_eq])
       have hdk := hid (fun h : (Tm.mk tk tneg td tnm tn tl tb).kids ≠ [] => dep_kids _ h)
       have hl1 : st.length + (e + 1) ≤ D + 1 := by omega
       have hdt : dep (Tm.mk tk tneg td tnm tn tl tb) ≤ e + 1 := by simp [depL] at hdr; omega
       have hA1 := hAt
       have hT1 := hTV'
       have hS1 := hSt'
       have hO1 := hOw'
       have hK1 := hK
       have hP1 := hPk
       have hs1 := hsz
       go_wp2_with fail
       clear hAt hTV' hSt' hOw' hK hPk hsz hcell
       have hZ1 := tv_zz hT1 hF
       obtain ⟨hg1, hg2, hg3⟩ := drop_step hfl.out
       refine (hHS.out kk _ _ _ hg1 hH.out.2.2 hZ1 hK1 hP1).mono ?_
       clear hZ1
       rintro e2 w2 ⟨rfl, hP2, hk2⟩
       have hzs2 := zz_kept hk2 hs1 hF
       have hA2 := hA1.zs hZa hzs2
       have hT2 := TV.zs hzs2 _ _ hT1
       have hS2 := StOk.zs hzs2 _ _ hS1
       have hO2 := own_kept hO1 hk2 (fun k hk => by have := hF k hk; omega)
       have hK2 := hK1.trans hk2
       have hs2 : w.heap.size + 3 ≤ w2.heap.size := Nat.le_trans hs1 hk2.size
       clear hzs2 hA1 hT1 hS1 hO1 hK1 hP1 hk2 hs1 x0 x1 x2 x3 x4 x5 x6
       obtain ⟨x0, x1, x2, x3, x4, x5, x6⟩ := hA2.tm
       obtain ⟨bb, hbb⟩ : ∃ bb, ans kk = bb := ⟨_, rfl⟩
       rw [hbb]
       have hHb := hid hbb
       clear hbb
       cases bb with
       | false =>
         go_wp2
         go_ret
         exact ⟨hK2, .inr ⟨kk, by omega, hH.out.2.2, hHb.out, rfl, hP2⟩⟩
       | true =>
         go_wp2_with fail
         refine (pruned_w tk tneg tod td.length tcd tnm tn tol tl.length tcl tob tb.length tcb _).mono ?_
         rintro e3 w3 ⟨rfl, b3⟩
         have hk3 : Kept (fun k => w.heap.size + 2 ≤ k) w2 w3 := Kept.of_below b3
         have hzs3 := zz_high (F := F) hk3 hs2
         have hT3 := TV.zs hzs3 _ _ hT2
         have hS3 := StOk.zs hzs3 _ _ hS2
         have hO3 : w3.ownsRow (w.heap.size + 2) 24 1 _ _ _ := own_kept (F := fun _ => False) hO2 (Kept.of_below b3) (fun k hk => hk.elim)
         have hK3 : Kept F w w3 := hK2.trans (Kept.of_below b3)
         have hP3 := hHP.out _ _ w3 hP2 (fun i hi => b3.block i (by have := hF i hi; omega))
         have hs3 : w.heap.size + 3 ≤ w3.heap.size := Nat.le_trans hs2 b3.size
         clear hzs3 hA2 hT2 hS2 hO2 hK2 hP2 hk3 hs2 b3 x0 x1 x2 x3 x4 x5 x6
         unfold TV at hT3
         obtain ⟨_, _, _, _, _, _, e4, _, _, _, _, _, htl3, htR3⟩ := hT3
         simp only [Value.agg.injEq, Array.mk.injEq, List.cons.injEq, Value.slice.injEq, and_true, true_and] at e4
         obtain ⟨⟨rfl, rfl⟩, ⟨rfl, rfl⟩, rfl, rfl⟩ := e4
         obtain ⟨p0, p1, p2, q2, r2, p3, p4, ok, ck, p6, q6, r6, hpr, hck, hkR⟩ := prV_row (k := tk) (neg := tneg) (d := td) (nm := tnm) (n := tn) (b := tb) (od := tod) (ob := tob) (cd := tcd) (cb := tcb) htl3 htR3
         unfold tmV at hpr
         rw [hpr]
         clear hpr htl3 htR3
         generalize hkk : (Tm.mk tk tneg td tnm tn tl tb).kids = kids at *
         cases kids with
         | nil =>
           go_wp2
           go_roundg (flat st).length
           case measure => simp only [flat, partsL, parts_eq, hkk, List.length_append, List.length_cons, List.length_nil]; omega
           case rel =>
             refine ⟨st, kk + 1, (e + 1), rfl, hid ⟨by rw [hg2]; simp [partsL], by omega, fun j hj => ?_⟩, hS3, hl1, hO3, hK3, hP3, hs3⟩
             rcases Nat.lt_or_ge j kk with h | h
             · exact hH.out.2.2 j h
             · have : j = kk := by omega
               subst this; exact hHb.out
         | cons q0 qs =>
           have hdq : depL (q0 :: qs) + 1 ≤ (e + 1) := Nat.le_trans (Nat.le_of_eq (hdk.out (by simp))) hdt
           obtain ⟨lv, hlv⟩ : ∃ lv, (e + 1) = lv + 1 := ⟨(e + 1) - 1, by omega⟩
           have hHq := hid (And.intro hdq hlv)
           clear hdq hlv
           have hO4 := hO3.alloc (.cells #[.slice ok (q0 :: qs).length ck] 24)
           have hHO := hid hO4
           have hHl := hid hl1
           have hHk := hid hkk
           clear hO3 hO4 hl1 hkk
           simp only [List.length_cons] at *
           go_wp2_with (at_builtin; refine wpList_append_own _ rfl _ _ 98 rfl (w.heap.size + 2) 24 i0 (.slice none 0 0) 1 24 Tryz.underlying98 hi hz0 hz1 hz2 rfl (by decide) _ _ _ rfl hHO.out ⟨w3.heap.size, 0, none⟩ 1 1 [.slice ok (qs.length + 1) ck] rfl ?c1 ?c2 ?c3 ?c4 ?c5 ?c6 ?_)
           case c1 => rfl
           case c2 =>
             intro j u hj
             cases j with
             | zero =>
               simp only [List.getElem?_cons_zero, Option.some.injEq] at hj
               subst hj
               rw [add_zero, World.cell?_alloc_mark]; rfl
             | succ j => simp at hj
           case c3 => intro u hu; simp at hu; subst hu; rfl
           case c4 => have := hHl.out; (try simp only [List.length_cons] at this); unfold maxLen; omega
           case c5 => have := hHl.out; (try simp only [List.length_cons] at this); omega
           case c6 => simp; omega
           intro v' w4 hown hgrow hnil
           have hk4 : Kept (fun k => w.heap.size + 2 ≤ k) w3 w4 := (Kept.of_alloc (F := fun k => w.heap.size + 2 ≤ k) w3 _).trans (Kept.of_grown hgrow (fun k hk => (hHO.out.lt k hk).1))
           have hzs4 := zz_high (F := F) hk4 hs3
           have hS4 := StOk.zs hzs4 _ _ hS3
           have hkR4 := TR.zs hzs4 _ _ hkR
           have hK4 : Kept F w w4 := hK3.then hk4 (fun i hi => .inr (by omega))
           have hP4 := hHP.out _ _ w4 hP3 (fun i hi => hk4.block i (by have := hF i hi; omega) (by have := hF i hi; omega))
           have hs4 : w.heap.size + 3 ≤ w4.heap.size := Nat.le_trans hs3 hk4.size
           go_wp2
           go_roundg (flat (⟨ok, ck, q0 :: qs⟩ :: st)).length
           case measure => simp only [flat, partsL, parts_eq, hHk.out, List.length_append, List.length_cons, List.length_nil]; omega
           case rel =>
             refine ⟨⟨ok, ck, q0 :: qs⟩ :: st, kk + 1, lv, rfl, hid ⟨by rw [hg2]; simp [flat], by omega, fun j hj => ?_⟩, ⟨by simp, by simpa using hck, hkR4, by have := hHq.out; show depL (q0 :: qs) ≤ lv; omega, by have := hHq.out.2; rw [← this]; exact hS4⟩, by have q1 := hHq.out.2; have q2 := hHl.out; simp only [List.length_cons] at q2 ⊢; omega, by simpa [Rw.val] using hown, hK4, hP4, hs4⟩
             rcases Nat.lt_or_ge j kk with h | h
             · exact hH.out.2.2 j h
             · have : j = kk := by omega
               subst this; exact hHb.out
     · obtain ⟨t2, rest', rfl⟩ : ∃ t2 rest', rest = t2 :: rest' := List.exists_cons_of_ne_nil hr1
       clear hr1
       have hfl : Hid (PT.drop kk = Tm.mk tk tneg td tnm tn tl tb :: (partsL (Tm.mk tk tneg td tnm tn tl tb).kids ++ flat (⟨some ⟨a.block, a.off + 7, none⟩, rc - 1, t2 :: rest'⟩ :: st))) := hid (by rw [hH.out.1]; simp [flat, partsL, parts_eq])
       have hdk := hid (fun h : (Tm.mk tk tneg td tnm tn tl tb).kids ≠ [] => dep_kids _ h)
       have hl1 : (Rw.mk (some ⟨a.block, a.off + 7, none⟩) (rc - 1) (t2 :: rest') :: st).length + e ≤ D + 1 := by simpa using hle
       have hdt : dep (Tm.mk tk tneg td tnm tn tl tb) ≤ e := by simp only [depL] at hdr; omega
       have hdr2 : Hid (depL (t2 :: rest') ≤ e) := hid (by simp only [depL] at hdr ⊢; omega)
       have hHO := hid (hOw'.alloc (.cells #[.slice (some ⟨a.block, a.off + 7, none⟩) (rest'.length + 1) (rc - 1)] 24))
       have hle' : st.length + 1 ≤ 1000001 := by simp only [List.length_cons] at hl1; omega
       have hHl0 := hid hl1
       clear hdr hl1 hle
       simp only [List.length_cons] at *
       go_wp2_with (at_builtin; refine wpList_append_own _ rfl _ _ 98 rfl (w.heap.size + 2) 24 i0 (.slice none 0 0) 1 24 Tryz.underlying98 hi hz0 hz1 hz2 rfl (by decide) _ _ _ rfl hHO.out ⟨wr.heap.size, 0, none⟩ 1 1 [.slice (some ⟨a.block, a.off + 7, none⟩) (rest'.length + 1) (rc - 1)] rfl ?c1 ?c2 ?c3 ?c4 ?c5 ?c6 ?_)
       case c1 => rfl
       case c2 =>
         intro j u hj
         cases j with
         | zero =>
           simp only [List.getElem?_cons_zero, Option.some.injEq] at hj
           subst hj
           rw [add_zero, World.cell?_alloc_mark]; rfl
         | succ j => simp at hj
       case c3 => intro u hu; simp at hu; subst hu; rfl
       case c4 => unfold maxLen; omega
       case c5 => omega
       case c6 => simp; omega
       intro v5 w1 hown hgrow hnil
       have hk1 : Kept (fun k => w.heap.size + 2 ≤ k) wr w1 := (Kept.of_alloc (F := fun k => w.heap.size + 2 ≤ k) wr _).trans (Kept.of_grown hgrow (fun k hk => (hHO.out.lt k hk).1))
       have hzs1 := zz_high (F := F) hk1 hsz
       have hS1 : StOk (ZZ F w.heap.size) w1 e (⟨some ⟨a.block, a.off + 7, none⟩, rc - 1, t2 :: rest'⟩ :: st) := ⟨by simp, by simp only [List.length_cons]; omega, TR.zs hzs1 _ _ hTRr, hdr2.out, StOk.zs hzs1 _ _ hSt'⟩
       have hA1 := hAt.zs hZa hzs1
       have hT1 := TV.zs hzs1 _ _ hTV'
       have hK1 : Kept F w w1 := hK.then hk1 (fun i hi => .inr (by omega))
       have hP1 := hHP.out _ _ w1 hPk (fun i hi => hk1.block i (by have := hF i hi; omega) (by have := hF i hi; omega))
       have hs1 : w.heap.size + 3 ≤ w1.heap.size := Nat.le_trans hsz hk1.size
       have hl1 := hHl0.out
       have hO1 : w1.ownsRow (w.heap.size + 2) 24 1 v5 (Rw.mk (some ⟨a.block, a.off + 7, none⟩) (rc - 1) (t2 :: rest') :: st).length ((Rw.mk (some ⟨a.block, a.off + 7, none⟩) (rc - 1) (t2 :: rest') :: st).map Rw.val).reverse := by simpa [Rw.val] using hown
       obtain ⟨o6, c6, rfl, _⟩ := own_shape hO1
       clear x0 x1 x2 x3 x4 x5 x6 hown hgrow hnil hk1 hzs1 hHO hAt hTV' hSt' hOw' hK hPk hsz hcell hTRr hle'
       obtain ⟨x0, x1, x2, x3, x4, x5, x6⟩ := hA1.tm
       go_wp2_with fail
       have hZ1 := tv_zz hT1 hF
       obtain ⟨hg1, hg2, hg3⟩ := drop_step hfl.out
       refine (hHS.out kk _ _ _ hg1 hH.out.2.2 hZ1 hK1 hP1).mono ?_
       clear hZ1
       rintro e2 w2 ⟨rfl, hP2, hk2⟩
       have hzs2 := zz_kept hk2 hs1 hF
       have hA2 := hA1.zs hZa hzs2
       have hT2 := TV.zs hzs2 _ _ hT1
       have hS2 := StOk.zs hzs2 _ _ hS1
       have hO2 := own_kept hO1 hk2 (fun k hk => by have := hF k hk; omega)
       have hK2 := hK1.trans hk2
       have hs2 : w.heap.size + 3 ≤ w2.heap.size := Nat.le_trans hs1 hk2.size
       clear hzs2 hA1 hT1 hS1 hO1 hK1 hP1 hk2 hs1 x0 x1 x2 x3 x4 x5 x6
       obtain ⟨x0, x1, x2, x3, x4, x5, x6⟩ := hA2.tm
       obtain ⟨bb, hbb⟩ : ∃ bb, ans kk = bb := ⟨_, rfl⟩
       rw [hbb]
       have hHb := hid hbb
       clear hbb
       cases bb with
       | false =>
         go_wp2
         go_ret
         exact ⟨hK2, .inr ⟨kk, by omega, hH.out.2.2, hHb.out, rfl, hP2⟩⟩
       | true =>
         go_wp2_with fail
         refine (pruned_w tk tneg tod td.length tcd tnm tn tol tl.length tcl tob tb.length tcb _).mono ?_
         rintro e3 w3 ⟨rfl, b3⟩
         have hk3 : Kept (fun k => w.heap.size + 2 ≤ k) w2 w3 := Kept.of_below b3
         have hzs3 := zz_high (F := F) hk3 hs2
         have hT3 := TV.zs hzs3 _ _ hT2
         have hS3 := StOk.zs hzs3 _ _ hS2
         have hO3 : w3.ownsRow (w.heap.size + 2) 24 1 _ _ _ := own_kept (F := fun _ => False) hO2 (Kept.of_below b3) (fun k hk => hk.elim)
         have hK3 : Kept F w w3 := hK2.trans (Kept.of_below b3)
         have hP3 := hHP.out _ _ w3 hP2 (fun i hi => b3.block i (by have := hF i hi; omega))
         have hs3 : w.heap.size + 3 ≤ w3.heap.size := Nat.le_trans hs2 b3.size
         clear hzs3 hA2 hT2 hS2 hO2 hK2 hP2 hk3 hs2 b3 x0 x1 x2 x3 x4 x5 x6
         unfold TV at hT3
         obtain ⟨_, _, _, _, _, _, e4, _, _, _, _, _, htl3, htR3⟩ := hT3
         simp only [Value.agg.injEq, Array.mk.injEq, List.cons.injEq, Value.slice.injEq, and_true, true_and] at e4
         obtain ⟨⟨rfl, rfl⟩, ⟨rfl, rfl⟩, rfl, rfl⟩ := e4
         obtain ⟨p0, p1, p2, q2, r2, p3, p4, ok, ck, p6, q6, r6, hpr, hck, hkR⟩ := prV_row (k := tk) (neg := tneg) (d := td) (nm := tnm) (n := tn) (b := tb) (od := tod) (ob := tob) (cd := tcd) (cb := tcb) htl3 htR3
         unfold tmV at hpr
         rw [hpr]
         clear hpr htl3 htR3
         generalize hkk : (Tm.mk tk tneg td tnm tn tl tb).kids = kids at *
         cases kids with
         | nil =>
           go_wp2
           go_roundg (flat (Rw.mk (some ⟨a.block, a.off + 7, none⟩) (rc - 1) (t2 :: rest') :: st)).length
           case measure => simp only [flat, partsL, parts_eq, hkk, List.length_append, List.length_cons, List.length_nil]; omega
           case rel =>
             refine ⟨(Rw.mk (some ⟨a.block, a.off + 7, none⟩) (rc - 1) (t2 :: rest') :: st), kk + 1, e, rfl, hid ⟨by rw [hg2]; simp [partsL], by omega, fun j hj => ?_⟩, hS3, hl1, hO3, hK3, hP3, hs3⟩
             rcases Nat.lt_or_ge j kk with h | h
             · exact hH.out.2.2 j h
             · have : j = kk := by omega
               subst this; exact hHb.out
         | cons q0 qs =>
           have hdq : depL (q0 :: qs) + 1 ≤ e := Nat.le_trans (Nat.le_of_eq (hdk.out (by simp))) hdt
           obtain ⟨lv, hlv⟩ : ∃ lv, e = lv + 1 := ⟨e - 1, by omega⟩
           have hHq := hid (And.intro hdq hlv)
           clear hdq hlv
           have hO4 := hO3.alloc (.cells #[.slice ok (q0 :: qs).length ck] 24)
           have hHO := hid hO4
           have hHl := hid hl1
           have hHk := hid hkk
           clear hO3 hO4 hl1 hkk
           simp only [List.length_cons] at *
           go_wp2_with (at_builtin; refine wpList_append_own _ rfl _ _ 98 rfl (w.heap.size + 2) 24 i0 (.slice none 0 0) 1 24 Tryz.underlying98 hi hz0 hz1 hz2 rfl (by decide) _ _ _ rfl hHO.out ⟨w3.heap.size, 0, none⟩ 1 1 [.slice ok (qs.length + 1) ck] rfl ?c1 ?c2 ?c3 ?c4 ?c5 ?c6 ?_)
           case c1 => rfl
           case c2 =>
             intro j u hj
             cases j with
             | zero =>
               simp only [List.getElem?_cons_zero, Option.some.injEq] at hj
               subst hj
               rw [add_zero, World.cell?_alloc_mark]; rfl
             | succ j => simp at hj
           case c3 => intro u hu; simp at hu; subst hu; rfl
           case c4 => have := hHl.out; (try simp only [List.length_cons] at this); unfold maxLen; omega
           case c5 => have := hHl.out; (try simp only [List.length_cons] at this); omega
           case c6 => simp; omega
           intro v' w4 hown hgrow hnil
           have hk4 : Kept (fun k => w.heap.size + 2 ≤ k) w3 w4 := (Kept.of_alloc (F := fun k => w.heap.size + 2 ≤ k) w3 _).trans (Kept.of_grown hgrow (fun k hk => (hHO.out.lt k hk).1))
           have hzs4 := zz_high (F := F) hk4 hs3
           have hS4 := StOk.zs hzs4 _ _ hS3
           have hkR4 := TR.zs hzs4 _ _ hkR
           have hK4 : Kept F w w4 := hK3.then hk4 (fun i hi => .inr (by omega))
           have hP4 := hHP.out _ _ w4 hP3 (fun i hi => hk4.block i (by have := hF i hi; omega) (by have := hF i hi; omega))
           have hs4 : w.heap.size + 3 ≤ w4.heap.size := Nat.le_trans hs3 hk4.size
           go_wp2
           go_roundg (flat (⟨ok, ck, q0 :: qs⟩ :: (Rw.mk (some ⟨a.block, a.off + 7, none⟩) (rc - 1) (t2 :: rest') :: st))).length
           case measure => simp only [flat, partsL, parts_eq, hHk.out, List.length_append, List.length_cons, List.length_nil]; omega
           case rel =>
             refine ⟨⟨ok, ck, q0 :: qs⟩ :: (Rw.mk (some ⟨a.block, a.off + 7, none⟩) (rc - 1) (t2 :: rest') :: st), kk + 1, lv, rfl, hid ⟨by rw [hg2]; simp [flat], by omega, fun j hj => ?_⟩, ⟨by simp, by simpa using hck, hkR4, by have := hHq.out; show depL (q0 :: qs) ≤ lv; omega, by have := hHq.out.2; rw [← this]; exact hS4⟩, by have q1 := hHq.out.2; have q2 := hHl.out; simp only [List.length_cons] at q2 ⊢; omega, by simpa [Rw.val] using hown, hK4, hP4, hs4⟩
             rcases Nat.lt_or_ge j kk with h | h
             · exact hH.out.2.2 j h
             · have : j = kk := by omega
               subst this; exact hHb.out
abbrev One (g : Nat) (z : Int) (w : World) : Prop := w.heap[g]? = some (.cells #[.int .i64 z] 3 (0, 0))
theorem One.cell {g : Nat} {z : Int} {w : World} (h : One g z w) : w.cell? ⟨g, 0, none⟩ = some (.int .i64 z) := by simp [World.cell?, h]
theorem One.free {g : Nat} {z : Int} {w : World} (h : One g z w) : w.frozen? ⟨g, 0, none⟩ = false := by simp [World.frozen?, h]
theorem One.lt {g : Nat} {z : Int} {w : World} (h : One g z w) : g < w.heap.size := (Array.getElem?_eq_some_iff.1 h).1
theorem One.set {g : Nat} {z : Int} {w : World} (h : One g z w) (y : Int) : One g y (w.setCell ⟨g, 0, none⟩ (.int .i64 y)) := one_setCell h
abbrev Low (w : World) : Nat → Prop := fun k => k < w.heap.size
set_option maxHeartbeats 1000000 in
theorem tree1_w (g k : Nat) (x : Value) (T : Tm) (w : World) (hk : k ≤ 65536) (h : One g (k : Int) w) (hx : TV (Low w) w T x) :
   Calls Tryz.prog 60 #[x, .pointer (some ⟨g, 0, none⟩)] w fun e w' => e = .returned (.bool (decide (k + 1 ≤ 65536))) ∧ One g ((k + 1 : Nat) : Int) w' ∧ Kept (fun i => i = g) w w' := by
 cases T with | mk tk tneg td tnm tn tl tb =>
 unfold TV at hx
 obtain ⟨tod, tcd, tol, tcl, tob, tcb, rfl, _, _, _, _, _, htl, htR⟩ := hx
 have hg := h.lt
 have hB : Below w.heap.size w (w.alloc (.cells #[.int .i64 tk, .bool tneg, .slice tod td.length tcd, .string tnm, .int .i64 tn, .slice tol tl.length tcl, .slice tob tb.length tcb] 27)) := (Below.refl _ w).alloc (Nat.le_refl _) _
 have h1 : One g (k : Int) (w.alloc (.cells #[.int .i64 tk, .bool tneg, .slice tod td.length tcd, .string tnm, .int .i64 tn, .slice tol tl.length tcl, .slice tob tb.length tcb] 27)) := (hB.block g hg).trans h
 have c1 := h1.cell
 have f1 := h1.free
 have h0 := h.set ((k : Int) + 1)
 have h2 : One g ((k : Int) + 1) ((w.setCell ⟨g, 0, none⟩ (.int .i64 ((k : Int) + 1))).alloc (.cells #[.int .i64 tk, .bool tneg, .slice tod td.length tcd, .string tnm, .int .i64 tn, .slice tol tl.length tcl, .slice tob tb.length tcb] 27)) := (((Below.refl _ _).alloc (Nat.le_refl _) _).block g h0.lt).trans h0
 have c2 := h2.cell
 go_enter Tryz.func60, Tryz.ntmps60
 go_wp2
 go_ret
 refine ⟨?_, by simpa using h2, (Kept.of_set (F := fun i => i = g) w (p := ⟨g, 0, none⟩) rfl _).trans (Kept.of_alloc _ _)⟩
 exact congrArg (fun b => Ending.returned (.bool b)) (decide_eq_decide.2 (by omega))
def treeN (T : Tm) : Nat := min (parts T).length 65537
theorem One.new (w : World) (z : Int) : One w.heap.size z (w.alloc (.cells #[.int .i64 z] 3)) := heap_alloc_new w _
theorem enTree : Enters Tryz.prog 60 := enters_of Tryz.func60 (by kernel_rfl) rfl
set_option maxHeartbeats 1000000 in
theorem Tree_w (T : Tm) (v : Value) (w : World) (hD : dep T ≤ 1000000) (hT : TV (Low w) w T v) :
   Calls Tryz.prog 25 #[v] w fun e w' => e = .returned (.int .i64 ((treeN T : Nat) : Int)) ∧ Below w.heap.size w w' := by
 have hmf : ∀ (fn : Fn) (first cap : Array Value) (w : World), (Instr.makeFunc fn first cap).run Tryz.prog w = .ok (.func fn first cap) w := fun _ _ _ _ => rfl
 have hT0 := hT
 cases hTT : T with | mk tk tneg td tnm tn tl tb =>
 rw [hTT] at hT
 unfold TV at hT
 obtain ⟨tod, tcd, tol, tcl, tob, tcb, rfl, _, _, _, _, _, htl, htR⟩ := hT
 rw [← hTT]
 clear hTT htR htl
 go_enter Tryz.func25, Tryz.ntmps25
 go_wp2_with fail
 have hz : (w.alloc (.cells #[.int .i64 tk, .bool tneg, .slice tod td.length tcd, .string tnm, .int .i64 tn, .slice tol tl.length tcl, .slice tob tb.length tcb] 27)).heap.size = w.heap.size + 1 := by simp
 have hB1 : Below w.heap.size w (w.alloc (.cells #[.int .i64 tk, .bool tneg, .slice tod td.length tcd, .string tnm, .int .i64 tn, .slice tol tl.length tcl, .slice tob tb.length tcb] 27)) := (Below.refl _ w).alloc (Nat.le_refl _) _
 generalize (w.alloc (.cells #[.int .i64 tk, .bool tneg, .slice tod td.length tcd, .string tnm, .int .i64 tn, .slice tol tl.length tcl, .slice tob tb.length tcb] 27)) = w1 at *
 have hO := One.new w1 0
 rw [hz] at hO
 have hB2 : Below w.heap.size w (w1.alloc (.cells #[.int .i64 0] 3)) := hB1.alloc (by omega) _
 have hz2 : (w1.alloc (.cells #[.int .i64 0] 3)).heap.size = w.heap.size + 2 := by simp [hz]
 generalize (w1.alloc (.cells #[.int .i64 0] 3)) = w2 at *
 have hz3 : Hid (w2.heap.size = w.heap.size + 2) := hid hz2
 refine (every_w 60 #[.pointer (some ⟨w.heap.size + 1, 0, none⟩)] enTree (fun i => i = w.heap.size + 1) (fun k w' => One (w.heap.size + 1) (k : Int) w') (fun k => decide (k + 1 ≤ 65536)) T _ w2 1000000 hD (Nat.le_refl _) ?e1 ?e2 ?e3 ?e4 ?e5).mono ?_
 case e1 => exact TV.mono (fun k hk h => ⟨hk, by have : k < w.heap.size := h; omega⟩) _ _ (TV.zs (fun k hk => hB2.block k hk) _ _ hT0)
 case e2 => intro k hk; omega
 case e3 => exact hO
 case e4 => intro k w3 w4 h1 h2; exact (h2 _ rfl).trans h1
 case e5 =>
   intro k p x w3 hp hj hx hk h1
   have hk' : k ≤ 65536 := by
     rcases Nat.lt_or_ge 65536 k with h | h
     · have := hj 65536 h
       simp at this
     · exact h
   exact tree1_w _ k x p w3 hk' h1 (TV.mono (fun k hk h => hk) _ _ hx)
 rintro e w3 ⟨hk, hres⟩
 have hB3 : Below w.heap.size w w3 := hB2.trans (hk.below (by omega) (fun k h => by omega))
 rcases hres with ⟨rfl, hall, hP⟩ | ⟨k, hkl, hall, hno, rfl, hP⟩
 · have hn : (parts T).length ≤ 65536 := by
     rcases Nat.lt_or_ge 65536 (parts T).length with h | h
     · have := hall 65536 h
       simp at this
     · exact h
   have ht : ((parts T).length : Int) = ((treeN T : Nat) : Int) := by unfold treeN; omega
   rw [ht] at hP
   have c1 := hP.cell
   go_wp2
   go_ret
   exact ⟨rfl, hB3⟩
 · have hk1 : k = 65536 := by
     have h1 : ¬ (k + 1 ≤ 65536) := by simpa using hno
     rcases Nat.lt_or_ge 65536 k with h | h
     · have := hall 65536 h
       simp at this
     · omega
   have ht : ((k + 1 : Nat) : Int) = ((treeN T : Nat) : Int) := by unfold treeN; omega
   rw [ht] at hP
   have c1 := hP.cell
   go_wp2
   go_ret
   exact ⟨rfl, hB3⟩
end Go.Proofs.YtlojfmlaookpmaaGreatDoor
namespace Go.Proofs.YtlojfmlaookpmaaGreatDoor
open Go.ChangeShapes Go.WideShapes Go.ChangeAt Go.RowKit
theorem or_low {s c y : Nat} (hc : c < 2 ^ s) (hy : y % 2 ^ s = 0) (hs : c + y < 18446744073709551616) : bits .or .u64 (c : Int) (y : Int) = ((c + y : Nat) : Int) := by
 rw [u64_or_nat c y (by omega) (by omega), Nat.or_comm, nat_join s y c hy hc, Nat.add_comm]
def smlB (Z : Int) : Bool := decide (-576460752303423488 ≤ Z) && decide (Z < 576460752303423488)
def smlN (Z : Int) : Int := if smlB Z then Z else 0
theorem sml_yes {Z : Int} (h0 : -576460752303423488 ≤ Z) (h1 : Z < 576460752303423488) : smlB Z = true ∧ smlN Z = Z := by
 have : smlB Z = true := by simp [smlB, h0, h1]
 exact ⟨this, by simp [smlN, this]⟩
theorem sml_no {Z : Int} (h : ¬ (-576460752303423488 ≤ Z ∧ Z < 576460752303423488)) : smlB Z = false ∧ smlN Z = 0 := by
 have : smlB Z = false := by
   simp only [smlB, Bool.and_eq_false_iff, decide_eq_false_iff_not]
   omega
 exact ⟨this, by simp [smlN, this]⟩
theorem sml_long {Z : Int} (h : ¬ (glim 4294967296 Z.natAbs).length ≤ 2) : smlB Z = false ∧ smlN Z = 0 := by
 refine sml_no (fun e => h ((glim_len (by omega) _ _).2 ?_))
 omega
theorem wr1 {s : Nat} (h : (s : Int) ≤ 576460752303423488) : IntKind.i64.wrap (s : Int) = (s : Int) := by rw [IntKind.wrap_i64]; omega
theorem wr2 {s : Nat} (h : (s : Int) ≤ 576460752303423488) : IntKind.i64.wrap (-(s : Int)) = -(s : Int) := by rw [IntKind.wrap_i64]; omega
set_option maxRecDepth 4000 in
set_option maxHeartbeats 1000000 in
theorem small_w (v : Value) (Z : Int) (K : Nat) (w : World) (hK : K ≤ 1000000) (h : IsN v Z K w) :
   Calls Tryz.prog 116 #[v] w fun e w' => e = .returned (.tuple #[.int .i64 (smlN Z), .bool (smlB Z)]) ∧ Below w.heap.size w w' := by
 obtain ⟨RN, hRN⟩ : ∃ RN, smlN Z = RN := ⟨_, rfl⟩
 obtain ⟨RB, hRB⟩ : ∃ RB, smlB Z = RB := ⟨_, rfl⟩
 rw [hRN, hRB]
 have HRN := hid (And.intro hRN hRB)
 clear hRN hRB
 have hA : ∀ w', Below w.heap.size w w' → IsN v Z K w' := fun w' hw => h.below hw
 obtain ⟨neg, o, l, c, rfl, hL, hc, hm, hs, hk⟩ := h
 clear hL hc hm hs hk
 have kA := Box.new w (.bool neg) (.slice o l.length c) 117
 have hB0 : Below w.heap.size w (w.alloc (.cells #[.bool neg, .slice o l.length c] 117)) := (Below.refl _ w).alloc (Nat.le_refl _) _
 have hz0 : (w.alloc (.cells #[.bool neg, .slice o l.length c] 117)).heap.size = w.heap.size + 1 := by simp
 go_enter Tryz.func116, Tryz.ntmps116
 go_wp2_with fail
 generalize (w.alloc (.cells #[.bool neg, .slice o l.length c] 117)) = W0 at *
 refine (view_w _ Z K _ hK (hA _ hB0)).mono ?_
 rintro e w1 ⟨v1, rfl, hv1, b1⟩
 obtain ⟨o1, c1, rfl, L1, z1, q1⟩ := hv1 w (hA w (Below.refl _ _))
 have hB1 := below_and hB0 (Nat.le_refl _) b1
 have kA1 := kA.below b1 (by omega)
 obtain ⟨p1, p2, p3, p4⟩ := id kA1
 clear b1 hA kA hv1
 by_cases hl2 : (glim 4294967296 Z.natAbs).length ≤ 2
 case neg =>
   obtain ⟨hn2, hb2⟩ := HRN.out
   rw [(sml_long hl2).2] at hn2
   rw [(sml_long hl2).1] at hb2
   subst hn2; subst hb2
   have hl2z : (2 : Int) < ((glim 4294967296 Z.natAbs).length : Int) := by omega
   have hB2 := (hB1.setCell (p := ⟨w.heap.size, 0, none⟩) (Nat.le_refl _) (.bool (decide (Z < 0)))).setCell (p := ⟨w.heap.size, 1, none⟩) (Nat.le_refl _) (.slice o1 (glim 4294967296 Z.natAbs).length c1)
   clear hl2 HRN
   go_wp2
   go_ret2
   exact ⟨rfl, hB2⟩
 have hm := lm_glim (b := 4294967296) (by omega) Z.natAbs
 have hv := gval_glim (b := 4294967296) (by omega) Z.natAbs
 have hl2z : ¬ (2 : Int) < ((glim 4294967296 Z.natAbs).length : Int) := by omega
 obtain ⟨nz, hnz⟩ : ∃ nz, decide (Z < 0) = nz := ⟨_, rfl⟩
 rw [hnz]
 have hnz' := hid hnz
 have hv' := hid hv
 clear hnz hv
 generalize glim 4294967296 Z.natAbs = A at *
 have kA2 : Box w.heap.size (.bool nz) (.slice o1 A.length c1) ((w1.setCell ⟨w.heap.size, 0, none⟩ (.bool nz)).setCell ⟨w.heap.size, 1, none⟩ (.slice o1 A.length c1)) := kA1.put
 have hB2 := (hB1.setCell (p := ⟨w.heap.size, 0, none⟩) (Nat.le_refl _) (.bool nz)).setCell (p := ⟨w.heap.size, 1, none⟩) (Nat.le_refl _) (.slice o1 A.length c1)
 have L2 := L1.below hB2
 go_wp2
 generalize ((w1.setCell ⟨w.heap.size, 0, none⟩ (.bool nz)).setCell ⟨w.heap.size, 1, none⟩ (.slice o1 A.length c1)) = W2 at *
 go_loopw [4, 16] (fun sv iv wr => ∃ (k s : Nat), sv = .int .u64 (s : Int) ∧ iv = .int .i64 (k : Int) ∧ k ≤ A.length ∧ wr = W2 ∧ Hid (s = gval 4294967296 (A.take k)) ∧ s < 18446744073709551616) (fun _ iv _ => A.length - (intOf iv).toNat)
 case atStart => exact ⟨0, 0, rfl, rfl, by omega, rfl, hid (by simp [gval]), by omega⟩
 case round =>
   obtain ⟨k, s, rfl, rfl, hk, rfl, hs, hsm⟩ := hrel
   by_cases h1 : k < A.length
   · obtain ⟨x, hx⟩ : ∃ x, A[k]? = some x := ⟨A[k], by simp [h1]⟩
     obtain ⟨a, rfl, cx⟩ := L2 k x hx
     have hxm := hm.at hx
     have hst := gval_take_succ 4294967296 hx
     rw [← hs.out] at hst
     have hst' := hid hst
     clear hst
     have hk01 : k = 0 ∨ k = 1 := by omega
     rcases hk01 with rfl | rfl
     · have hs0 : s = 0 := by rw [hs.out]; simp [gval]
       subst hs0
       have h1z : (0 : Int) < (A.length : Int) := by omega
       have cx0 : wr.cell? a = some (.int .u32 (x : Int)) := by simpa [Addr.add] using cx
       have w2 : bits .or .u64 (0 : Int) (x : Int) = (x : Int) := by
         have := or_low (s := 0) (c := 0) (y := x) (by omega) (by omega) (by omega)
         simpa using this
       have w3 : IntKind.u64.wrap (x : Int) = (x : Int) := by rw [IntKind.wrap_u64]; omega
       clear cx
       go_wp2
       go_roundw
       case rel => exact ⟨1, x, rfl, by go_num, by omega, by first | rfl | trivial, hid (by rw [show (1 : Nat) = 0 + 1 from rfl, hst'.out]; simp), by omega⟩
       case measure => simp [intOf]; try omega
     · have h1z : (1 : Int) < (A.length : Int) := by omega
       obtain ⟨xb, hxb⟩ : ∃ xb, x * 4294967296 = xb := ⟨_, rfl⟩
       obtain ⟨t, ht⟩ : ∃ t, s + xb = t := ⟨_, rfl⟩
       have hs32 : s < 4294967296 := by
         rw [hs.out]
         have := gval_lt (hm.take 1)
         rw [List.length_take, Nat.min_eq_left (by omega)] at this
         simpa using this
       have w1 : IntKind.u64.wrap ((x : Int) * 4294967296) = (xb : Int) := by rw [IntKind.wrap_u64]; omega
       have w2 : bits .or .u64 (s : Int) (xb : Int) = (t : Int) := by
         rw [or_low (s := 32) (by omega) (by omega) (by omega), ht]
       have htg : Hid (t = gval 4294967296 (A.take 2)) := hid (by rw [show (2 : Nat) = 1 + 1 from rfl, hst'.out, Nat.pow_one, Nat.mul_comm]; omega)
       have cx1 : wr.cell? { block := a.block, off := a.off + 1, spot := none } = some (.int .u32 (x : Int)) := by simpa [Addr.add] using cx
       clear hxb ht
       go_wp2
       go_roundw
       case rel => exact ⟨2, t, rfl, by go_num, by omega, by first | rfl | trivial, htg, by rw [htg.out]; have := gval_lt (hm.take 2); rw [List.length_take, Nat.min_eq_left (by omega)] at this; omega⟩
       case measure => simp [intOf]; try omega
   · have h1z : ¬ (k : Int) < (A.length : Int) := by omega
     have hsZ : s = Z.natAbs := by rw [hs.out, List.take_of_length_le (by omega), hv'.out]
     obtain ⟨f1, f2, f3, f4⟩ := id kA2
     have hnzv := hnz'.out
     obtain ⟨hn2, hb2⟩ := HRN.out
     cases nz with
     | true =>
       have hZn : Z < 0 := by simpa using hnzv
       by_cases hle : (s : Int) ≤ 576460752303423488
       · have hled : decide ((s : Int) ≤ 576460752303423488) = true := by simp [hle]
         have hy := sml_yes (Z := Z) (by omega) (by omega)
         rw [hy.2] at hn2
         rw [hy.1] at hb2
         have w1 := wr1 hle
         have w2 := wr2 hle
         have Hr : Hid (-(s : Int) = RN) := hid (by omega)
         subst hb2
         clear hs hnzv hnz' hv' hsZ hZn hn2 HRN hy
         go_wp2
         go_ret2
         exact ⟨by rw [← Hr.out]; first | rfl | simp [w2], hB2⟩
       · have hled : decide ((s : Int) ≤ 576460752303423488) = false := by simp; omega
         have hy := sml_no (Z := Z) (by omega)
         rw [hy.2] at hn2
         rw [hy.1] at hb2
         subst hn2; subst hb2
         clear hs hnzv hnz' hv' hsZ hZn HRN hy
         go_wp2
         go_ret2
         exact ⟨rfl, hB2⟩
     | false =>
       have hZn : ¬ Z < 0 := by simpa using hnzv
       by_cases hlt : (s : Int) < 576460752303423488
       · have hltd : decide ((s : Int) < 576460752303423488) = true := by simp [hlt]
         have hy := sml_yes (Z := Z) (by omega) (by omega)
         rw [hy.2] at hn2
         rw [hy.1] at hb2
         have w1 := wr1 (Int.le_of_lt hlt)
         have Hr : Hid ((s : Int) = RN) := hid (by omega)
         subst hb2
         clear hs hnzv hnz' hv' hsZ hZn hn2 HRN hy
         go_wp2
         go_ret2
         exact ⟨by rw [← Hr.out]; first | rfl | simp [w1], hB2⟩
       · have hltd : decide ((s : Int) < 576460752303423488) = false := by simp; omega
         have hy := sml_no (Z := Z) (by omega)
         rw [hy.2] at hn2
         rw [hy.1] at hb2
         subst hn2; subst hb2
         clear hs hnzv hnz' hv' hsZ hZn HRN hy
         go_wp2
         go_ret2
         exact ⟨rfl, hB2⟩
theorem gval_drop {A : List Nat} {m x : Nat} (h : A[m]? = some x) : gval 4294967296 (A.drop m) = gval 4294967296 (A.drop (m + 1)) * 4294967296 + x := by
 have hm : m < A.length := (List.getElem?_eq_some_iff.1 h).1
 rw [List.drop_eq_getElem_cons hm, (List.getElem?_eq_some_iff.1 h).2]
 show x + 4294967296 * gval 4294967296 (A.drop (m + 1)) = _
 rw [Nat.mul_comm, Nat.add_comm]
theorem drop_lt {A : List Nat} (h : Lm 4294967296 A) (m : Nat) (hm : A.length ≤ m + 1) : gval 4294967296 (A.drop m) < 4294967296 := by
 have h1 := gval_lt (h.drop m)
 have h2 : (A.drop m).length ≤ 1 := by rw [List.length_drop]; omega
 have h3 : (4294967296 : Nat) ^ (A.drop m).length ≤ 4294967296 ^ 1 := Nat.pow_le_pow_right (by decide) h2
 omega
theorem w_shl {u : Nat} (h : u < 4294967296) : IntKind.u64.wrap ((u : Int) * 4294967296) = ((u * 4294967296 : Nat) : Int) := by rw [IntKind.wrap_u64]; omega
theorem w_x {x : Nat} (h : x < 4294967296) : IntKind.u64.wrap (x : Int) = (x : Int) := by rw [IntKind.wrap_u64]; omega
set_option maxRecDepth 4000 in
set_option maxHeartbeats 1000000 in
theorem rsmall_w (v : Value) (Z : Int) (K : Nat) (w : World) (hK : K ≤ 1000000) (h : IsN v Z K w) :
   Calls Tryz.prog 68 #[v] w fun e w' => e = .returned (.tuple #[.int .i64 (smlN Z), .bool (smlB Z)]) ∧ Below w.heap.size w w' := by
 obtain ⟨RN, hRN⟩ : ∃ RN, smlN Z = RN := ⟨_, rfl⟩
 obtain ⟨RB, hRB⟩ : ∃ RB, smlB Z = RB := ⟨_, rfl⟩
 rw [hRN, hRB]
 have HRN := hid (And.intro hRN hRB)
 clear hRN hRB
 have hA : ∀ w', Below w.heap.size w w' → IsN v Z K w' := fun w' hw => h.below hw
 obtain ⟨neg, o, l, c, rfl, hL, hc, hm, hs, hk⟩ := h
 clear hL hc hm hs hk
 have kA := Box.new w (.bool neg) (.slice o l.length c) 68
 have hB0 : Below w.heap.size w (w.alloc (.cells #[.bool neg, .slice o l.length c] 68)) := (Below.refl _ w).alloc (Nat.le_refl _) _
 have hz0 : (w.alloc (.cells #[.bool neg, .slice o l.length c] 68)).heap.size = w.heap.size + 1 := by simp
 go_enter Tryz.func68, Tryz.ntmps68
 go_wp2_with fail
 generalize (w.alloc (.cells #[.bool neg, .slice o l.length c] 68)) = W0 at *
 refine (rnorm_w _ Z K _ hK (hA _ hB0)).mono ?_
 rintro e w1 ⟨s1, rfl, hF1, q1, b1⟩
 obtain ⟨o1, c1, rfl, L1, z1, _⟩ := hF1.parts
 have hB1 := below_and hB0 (Nat.le_refl _) b1
 have kA1 := kA.below b1 (by omega)
 obtain ⟨p1, p2, p3, p4⟩ := id kA1
 clear b1 hA kA hF1
 by_cases hl2 : (glim 4294967296 Z.natAbs).length ≤ 2
 case neg =>
   obtain ⟨hn2, hb2⟩ := HRN.out
   rw [(sml_long hl2).2] at hn2
   rw [(sml_long hl2).1] at hb2
   subst hn2; subst hb2
   have hl2z : (2 : Int) < ((glim 4294967296 Z.natAbs).length : Int) := by omega
   have hB2 := (hB1.setCell (p := ⟨w.heap.size, 0, none⟩) (Nat.le_refl _) (.bool (decide (Z < 0)))).setCell (p := ⟨w.heap.size, 1, none⟩) (Nat.le_refl _) (.slice o1 (glim 4294967296 Z.natAbs).length c1)
   clear hl2 HRN
   go_wp2
   go_ret2
   exact ⟨rfl, hB2⟩
 have hm := lm_glim (b := 4294967296) (by omega) Z.natAbs
 have hv := gval_glim (b := 4294967296) (by omega) Z.natAbs
 have hl2z : ¬ (2 : Int) < ((glim 4294967296 Z.natAbs).length : Int) := by omega
 obtain ⟨nz, hnz⟩ : ∃ nz, decide (Z < 0) = nz := ⟨_, rfl⟩
 rw [hnz]
 have hnz' := hid hnz
 have hv' := hid hv
 clear hnz hv
 have L1b := L1.box kA1 (.bool nz) (.slice o1 (glim 4294967296 Z.natAbs).length c1)
 generalize glim 4294967296 Z.natAbs = A at *
 have kA2 : Box w.heap.size (.bool nz) (.slice o1 A.length c1) ((w1.setCell ⟨w.heap.size, 0, none⟩ (.bool nz)).setCell ⟨w.heap.size, 1, none⟩ (.slice o1 A.length c1)) := kA1.put
 have hB2 := (hB1.setCell (p := ⟨w.heap.size, 0, none⟩) (Nat.le_refl _) (.bool nz)).setCell (p := ⟨w.heap.size, 1, none⟩) (Nat.le_refl _) (.slice o1 A.length c1)
 go_wp2
 generalize ((w1.setCell ⟨w.heap.size, 0, none⟩ (.bool nz)).setCell ⟨w.heap.size, 1, none⟩ (.slice o1 A.length c1)) = W2 at *
 clear L1 p1 p2 p3 p4 kA1 hB1
 go_loopw [4, 5] (fun sv iv wr => ∃ (k s : Nat), sv = .int .u64 (s : Int) ∧ iv = .int .i64 ((k : Int) - 1) ∧ k ≤ A.length ∧ wr = W2 ∧ Hid (s = gval 4294967296 (A.drop k)) ∧ s < 18446744073709551616) (fun _ iv _ => (intOf iv + 1).toNat)
 case atStart => exact ⟨A.length, 0, rfl, by go_num, by omega, rfl, hid (by simp [gval]), by omega⟩
 case round =>
   obtain ⟨k, s, rfl, rfl, hk, rfl, hs, hsm⟩ := hrel
   obtain ⟨f1, f2, f3, f4⟩ := id kA2
   by_cases h0 : k = 0
   · subst h0
     have hsZ : s = Z.natAbs := by rw [hs.out, List.drop_zero, hv'.out]
     have hnzv := hnz'.out
     obtain ⟨hn2, hb2⟩ := HRN.out
     by_cases hgt : 576460752303423488 < (s : Int)
     · have hgtd : decide (576460752303423488 < (s : Int)) = true := by simp [hgt]
       have hy := sml_no (Z := Z) (by omega)
       rw [hy.2] at hn2
       rw [hy.1] at hb2
       subst hn2; subst hb2
       clear hs hnzv hnz' hv' hsZ HRN hy
       go_wp2
       go_ret2
       exact ⟨rfl, hB2⟩
     · have hgtd : decide (576460752303423488 < (s : Int)) = false := by simp; omega
       have hle : (s : Int) ≤ 576460752303423488 := by omega
       have w1 := wr1 hle
       have w2 := wr2 hle
       cases nz with
       | true =>
         have hZn : Z < 0 := by simpa using hnzv
         have hy := sml_yes (Z := Z) (by omega) (by omega)
         rw [hy.2] at hn2
         rw [hy.1] at hb2
         have Hr : Hid (-(s : Int) = RN) := hid (by omega)
         subst hb2
         by_cases heq : (s : Int) = 576460752303423488
         · have heqd : ((s : Int) == 576460752303423488) = true := by simp [heq]
           clear hs hnzv hnz' hv' hsZ hZn hn2 HRN hy heq hgt
           go_wp2
           go_ret2
           exact ⟨by rw [← Hr.out]; first | rfl | simp [w2], hB2⟩
         · have heqd : ((s : Int) == 576460752303423488) = false := by simp [heq]
           clear hs hnzv hnz' hv' hsZ hZn hn2 HRN hy heq hgt
           go_wp2
           go_ret2
           exact ⟨by rw [← Hr.out]; first | rfl | simp [w2], hB2⟩
       | false =>
         have hZn : ¬ Z < 0 := by simpa using hnzv
         by_cases heq : (s : Int) = 576460752303423488
         · have heqd : ((s : Int) == 576460752303423488) = true := by simp [heq]
           have hy := sml_no (Z := Z) (by omega)
           rw [hy.2] at hn2
           rw [hy.1] at hb2
           subst hn2; subst hb2
           clear hs hnzv hnz' hv' hsZ hZn HRN hy heq hgt
           go_wp2
           go_ret2
           exact ⟨rfl, hB2⟩
         · have heqd : ((s : Int) == 576460752303423488) = false := by simp [heq]
           have hy := sml_yes (Z := Z) (by omega) (by omega)
           rw [hy.2] at hn2
           rw [hy.1] at hb2
           have Hr : Hid ((s : Int) = RN) := hid (by omega)
           subst hb2
           clear hs hnzv hnz' hv' hsZ hZn hn2 HRN hy heq hgt
           go_wp2
           go_ret2
           exact ⟨by rw [← Hr.out]; first | rfl | simp [w1], hB2⟩
   · obtain ⟨m, rfl⟩ : ∃ m, k = m + 1 := ⟨k - 1, by omega⟩
     obtain ⟨x, hx⟩ : ∃ x, A[m]? = some x := ⟨A[m]'(by omega), by simp⟩
     obtain ⟨a, rfl, cx⟩ := L1b m x hx
     have hxm := hm.at hx
     have hst := gval_drop hx
     rw [← hs.out] at hst
     have hs32 : s < 4294967296 := by rw [hs.out]; exact drop_lt hm (m + 1) (by omega)
     have e1 : (((m + 1 : Nat) : Int) - 1) = (m : Int) := by omega
     have hml : (m : Int) < (A.length : Int) := by omega
     have w1 := w_shl hs32
     have w0 := w_x hxm
     obtain ⟨rb, hrb⟩ : ∃ rb, s * 4294967296 = rb := ⟨_, rfl⟩
     have w2 := or32 (r := s) (x := x) (by omega) hxm
     obtain ⟨t, ht⟩ : ∃ t, s * 4294967296 + x = t := ⟨_, rfl⟩
     rw [ht] at w2 hst
     rw [hrb] at w1 w2
     have hst' := hid hst
     have htm : t < 18446744073709551616 := by omega
     clear hst hrb ht hx
     go_wp2
     go_roundw
     case rel => exact ⟨m, t, rfl, by go_num, by omega, by first | rfl | trivial, hid hst'.out.symm, htm⟩
     case measure => simp [intOf]; try omega
open Go.Shelf
set_option maxHeartbeats 1000000 in
theorem number_w (k : Int) (neg : Bool) (od : Option Addr) (ld cd : Nat) (nm : ByteArray) (n : Int) (ol : Option Addr) (ll cl : Nat) (ob : Option Addr) (lb cb : Nat) (w : World) :
   Calls Tryz.prog 124 #[tmV k neg (.slice od ld cd) nm n (.slice ol ll cl) (.slice ob lb cb)] w fun e w' => e = .returned (.agg #[.bool neg, .slice od ld cd]) ∧ Below w.heap.size w w' := by
 go_enter Tryz.func124, Tryz.ntmps124
 go_wp2
 exact bodyPost_ret (v := .agg #[.bool neg, .slice od ld cd]) (by simp [results, Tryz.results124, go_sem]) rfl ⟨rfl, ((Below.refl _ w).alloc (Nat.le_refl _) _).alloc (by simp) _⟩
def Tm.num : Tm → Int | .mk _ neg d _ _ _ _ => sv neg (gval 4294967296 d)
def Tm.ok1 : Tm → Prop | .mk _ _ d nm _ l b => d.length ≤ 1000000 ∧ nm.size ≤ 1000000 ∧ l.length ≤ 1000000 ∧ b.length ≤ 1000000 ∧ Lm 4294967296 d
end Go.Proofs.YtlojfmlaookpmaaGreatDoor
