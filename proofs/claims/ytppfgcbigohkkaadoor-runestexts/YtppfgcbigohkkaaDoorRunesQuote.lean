/- Quote of package runes: for every text what the signs say. -/
import Derived.Test.YtppfgcbigohkkaaDoorRunesHex
namespace Go.Proofs.YtppfgcbigohkkaaDoor
open Go.ChangeShapes Go.WideShapes Go.ChangeAt Go.RowKit Go.Shelf
set_option linter.unusedSimpArgs false
set_option linter.unusedVariables false

def escR (r : Nat) : List Nat :=
  if r = 39 ∨ r = 92 then [92, r] else if r = 10 then [92, 110] else if hiddenB r then 92 :: 120 :: (hex2 r ++ [59]) else [r]
def escs : List Nat → List Nat
  | [] => []
  | r :: t => escR r ++ escs t
def quoteR (rs : List Nat) : List Nat := 39 :: (escs rs ++ [39])
def quoteL (l : List UInt8) : List UInt8 := if Lib.validD l then (if plainB l then l else en (quoteR (sg l))) else []

theorem okR_ascii {r : Nat} (h : r < 128) : okR r := Or.inl (by omega)
theorem hex2_ascii (r : Nat) (h : r < 128) : ∀ x ∈ hex2 r, x < 128 := by
  intro x hx
  unfold hex2 at hx
  split at hx
  · simp at hx; subst hx; exact hexD_lt _ (by omega)
  · simp at hx
    rcases hx with rfl | rfl
    · exact hexD_lt _ (by omega)
    · exact hexD_lt _ (by omega)
theorem hidden_lt {r : Nat} (h : hiddenB r = true) : r < 128 := by simp [hiddenB] at h; omega
theorem okRs_escR (r : Nat) (h : okR r) : okRs (escR r) := by
  intro x hx
  unfold escR at hx
  split at hx
  · simp at hx; rcases hx with rfl | rfl
    · exact okR_ascii (by decide)
    · exact h
  · split at hx
    · simp at hx; rcases hx with rfl | rfl <;> exact okR_ascii (by decide)
    · split at hx
      · rename_i hh
        simp at hx
        rcases hx with rfl | rfl | hx | rfl
        · exact okR_ascii (by decide)
        · exact okR_ascii (by decide)
        · exact okR_ascii (hex2_ascii r (hidden_lt hh) x hx)
        · exact okR_ascii (by decide)
      · simp at hx; subst hx; exact h
theorem okRs_escs : ∀ rs, okRs rs → okRs (escs rs)
  | [], _ => okRs_nil
  | r :: t, h => okRs_append (okRs_escR r (okRs_cons h).1) (okRs_escs t (okRs_cons h).2)
theorem okRs_one {r : Nat} (h : okR r) : okRs [r] := fun x hx => by simp at hx; subst hx; exact h
theorem okRs_quoteR (rs : List Nat) (h : okRs rs) : okRs (quoteR rs) :=
  okRs_append (a := [39]) (okRs_one (okR_ascii (by decide))) (okRs_append (okRs_escs rs h) (okRs_one (okR_ascii (by decide))))
theorem e1_39 : e1 39 = [39] := by decide
theorem en_ascii : ∀ (l : List Nat), (∀ x ∈ l, x < 128) → en l = l.map (·.toUInt8)
  | [], _ => rfl
  | r :: t, h => by
    show e1 r ++ en t = _
    rw [e1_ascii r (h r (by simp)), en_ascii t (fun x hx => h x (by simp [hx]))]
    rfl
theorem en_length_le : ∀ l : List Nat, (en l).length ≤ 4 * l.length
  | [] => by simp [en]
  | r :: t => by
    have h1 := en_length_le t
    have h2 := (e1_length r).2
    simp only [en, List.length_append, List.length_cons]
    omega
theorem hex2_len (r : Nat) : 1 ≤ (hex2 r).length ∧ (hex2 r).length ≤ 2 := by unfold hex2; split <;> simp
theorem escR_len (r : Nat) : 1 ≤ (escR r).length ∧ (escR r).length ≤ 5 := by
  have := hex2_len r
  unfold escR; split
  · simp
  · split
    · simp
    · split
      · simp; omega
      · simp
theorem escs_len : ∀ rs : List Nat, (escs rs).length ≤ 5 * rs.length
  | [] => by simp [escs]
  | r :: t => by
    have := escs_len t
    have := escR_len r
    simp only [escs, List.length_append, List.length_cons]
    omega

theorem kept_of_below {e : TypeId} {b : Option Nat} {w w' : World} (h : Below w.heap.size w w') : Lib.OthersKept e b w w' := fun k o hk _ _ =>
  (h.block k (lt_of_heap hk)).trans hk
theorem tabAt_B {g B : Nat} {tab : List Nat} {w w' : World} (h : TabAt g tab w) (hg : g < B) (hb : Below B w w') : TabAt g tab w' := fun j hj =>
  (hb.cell (p := ⟨g, j, none⟩) hg).trans (h j hj)
theorem below_le {B C : Nat} {w w' : World} (h : Below C w w') (hBC : B ≤ C) : Below B w w' := ⟨h.os, h.tape, h.output, h.size, fun k hk => h.block k (by omega)⟩

theorem writeB_w (B b : Nat) (bs : List UInt8) (c : UInt8) (n : Int) (hn : (c.toNat : Int) = n) (w : World) (h : Bld 48 B b [] [] bs w) (hlen : bs.length + 1 ≤ 140737488355328) (hBw : B ≤ w.heap.size) :
    Calls Tryd.prog 38 #[.pointer (some ⟨b, 0, none⟩), .int .u8 n] w fun e w' => e = .returned .nilIface ∧ Bld 48 B b [] [] (bs ++ [c]) w' ∧ Below B w w' ∧ Lib.OthersKept 5 (some b) w w' := by
  subst hn
  exact writeByte_w _ B b [] [] bs c w h home0 hlen hBw
theorem writeS_w (B b : Nat) (bs : List UInt8) (s : ByteArray) (w : World) (h : Bld 48 B b [] [] bs w) (hs0 : s.data.toList ≠ []) (hlen : bs.length + s.size ≤ 140737488355328) (hBw : B ≤ w.heap.size) :
    Calls Tryd.prog 57 #[.pointer (some ⟨b, 0, none⟩), .string s] w fun e w' => e = .returned (.tuple #[.int .i64 s.size, .nilIface]) ∧ Bld 48 B b [] [] (bs ++ s.data.toList) w' ∧ Below B w w' ∧ Lib.OthersKept 5 (some b) w w' :=
  writeString_w _ B b [] [] bs s w h home0 hs0 hlen hBw
theorem writeR_w (B b : Nat) (bs : List UInt8) (r : Nat) (hr : r ≤ 1114111) (w : World) (h : Bld 48 B b [] [] bs w) (hlen : bs.length + 4 ≤ 140737488355328) (hBw : B ≤ w.heap.size) :
    Calls Tryd.prog 56 #[.pointer (some ⟨b, 0, none⟩), .int .i32 (r : Int)] w fun e w' => e = .returned (.tuple #[.int .i64 (e1 r).length, .nilIface]) ∧ Bld 48 B b [] [] (bs ++ e1 r) w' ∧ Below B w w' ∧ Lib.OthersKept 5 (some b) w w' :=
  writeRune_w _ B b [] [] bs r hr w h home0 hlen hBw

set_option maxHeartbeats 2000000 in
theorem writeSign_w (B b : Nat) (bs : List UInt8) (r : Nat) (hr : r ≤ 1114111) (w : World) (h : Bld 48 B b [] [] bs w) (hlen : bs.length + 8 ≤ 140737488355328) (hBw : B ≤ w.heap.size) (hg : 5 < B) (hT : TabAt 5 Lib.deBruijn64tab w) :
    Calls Tryd.prog 39 #[.pointer (some ⟨b, 0, none⟩), .int .i32 (r : Int)] w fun e w' => e = .returned (.tuple #[]) ∧ Bld 48 B b [] [] (bs ++ en (escR r)) w' ∧ Below B w w' ∧ Lib.OthersKept 5 (some b) w w' := by
  by_cases h1 : r = 39 ∨ r = 92
  · have hesc : en (escR r) = [92] ++ e1 r := by
      unfold escR; rw [if_pos h1]; show e1 92 ++ (e1 r ++ []) = _; rw [List.append_nil]; rfl
    have hz : ((r : Int) == 39) = true ∨ (((r : Int) == 39) = false ∧ ((r : Int) == 92) = true) := by
      rcases h1 with rfl | rfl
      · exact Or.inl rfl
      · exact Or.inr ⟨rfl, rfl⟩
    rw [hesc]
    rcases hz with hz | ⟨hz, hz2⟩
    all_goals
      go_enter Tryd.func39, Tryd.ntmps39
      go_wp2_with (go_at_call 38; refine (writeB_w B b bs 92 92 rfl _ h (by omega) hBw).mono ?_)
      rintro e w1 ⟨rfl, h1, b1, k1⟩
      go_wp2_with (go_at_call 56; refine (writeR_w B b _ r hr _ h1 (by simp; omega) (by have := b1.size; omega)).mono ?_)
      rintro e w2 ⟨rfl, h2, b2, k2⟩
      go_wp2
      go_end0
      exact ⟨rfl, by simpa using h2, b1.trans b2, k1.trans k2⟩
  · have a1 : ((r : Int) == 39) = false := by simp; omega
    have a2 : ((r : Int) == 92) = false := by simp; omega
    by_cases h2 : r = 10
    · have hesc : en (escR r) = [92, 110] := by subst h2; decide
      have a3 : ((r : Int) == 10) = true := by subst h2; rfl
      rw [hesc]
      go_enter Tryd.func39, Tryd.ntmps39
      go_wp2_with fail
      refine (writeS_w B b bs ⟨#[92, 110]⟩ _ h (by simp) (by have : (⟨#[92, 110]⟩ : ByteArray).size = 2 := rfl; omega) hBw).mono ?_
      rintro e w1 ⟨rfl, h1, b1, k1⟩
      go_wp2
      go_end0
      exact ⟨rfl, h1, b1, k1⟩
    · have a3 : ((r : Int) == 10) = false := by simp; omega
      cases hh : hiddenB r with
      | true =>
        have hlt := hidden_lt hh
        have hesc : en (escR r) = [92, 120] ++ (en (hex2 r) ++ [59]) := by
          unfold escR
          rw [if_neg h1, if_neg h2, if_pos hh]
          show e1 92 ++ (e1 120 ++ en (hex2 r ++ [59])) = _
          rw [en_append, en_one]
          rfl
        have hxl := hex2_len r
        have hxb : (en (hex2 r)).length ≤ 2 := by rw [en_ascii _ (hex2_ascii r hlt)]; simp; omega
        have hxn : en (hex2 r) ≠ [] := by
          intro e; rw [en_eq_nil] at e; rw [e] at hxl; simp at hxl
        have hxs : (⟨(en (hex2 r)).toArray⟩ : ByteArray).size = (en (hex2 r)).length := rfl
        rw [hesc]
        go_enter Tryd.func39, Tryd.ntmps39
        go_wp2_with (go_at_call 58; refine (hidden_w _ _).mono ?_; rintro e w1 ⟨rfl, rfl⟩)
        refine (writeS_w B b bs ⟨#[92, 120]⟩ _ h (by simp) (by have : (⟨#[92, 120]⟩ : ByteArray).size = 2 := rfl; omega) hBw).mono ?_
        rintro e w1 ⟨rfl, h1, b1, k1⟩
        have s1 := b1.size
        have hT1 := tabAt_B hT hg b1
        go_wp2_with (go_at_call 59; refine (formatInt_w r hlt _ hT1).mono ?_)
        rintro e w2 ⟨rfl, b2⟩
        have s2 := b2.size
        have h2 := h1.below b2
        go_wp2_with fail
        refine (writeS_w B b _ _ _ h2 hxn (by rw [hxs]; simp; omega) (by omega)).mono ?_
        rintro e w3 ⟨rfl, h3, b3, k3⟩
        have s3 := b3.size
        go_wp2_with (go_at_call 38; refine (writeB_w B b _ 59 59 rfl _ h3 (by simp; omega) (by omega)).mono ?_)
        rintro e w4 ⟨rfl, h4, b4, k4⟩
        go_wp2
        go_end0
        refine ⟨rfl, ?_, ((b1.trans (below_le b2 (by omega))).trans b3).trans b4, ((k1.trans (kept_of_below b2)).trans k3).trans k4⟩
        simpa using h4
      | false =>
        have hesc : en (escR r) = e1 r := by
          unfold escR
          rw [if_neg h1, if_neg h2, if_neg (by simp [hh]), en_one]
        rw [hesc]
        go_enter Tryd.func39, Tryd.ntmps39
        go_wp2_with (go_at_call 58; refine (hidden_w _ _).mono ?_; rintro e w1 ⟨rfl, rfl⟩)
        refine (writeR_w B b _ r hr _ h (by omega) hBw).mono ?_
        rintro e w2 ⟨rfl, h2, b2, k2⟩
        go_wp2
        go_end0
        exact ⟨rfl, h2, b2, k2⟩

/-- What the program finds in the library's tables. -/
def Tabs (w : World) : Prop := Lib.Utf8Tabs 0 1 w ∧ TabAt 5 Lib.deBruijn64tab w
theorem Tabs.below {w w' : World} (h : Tabs w) (hb : Below w.heap.size w w') : Tabs w' := ⟨Utf8Tabs_below h.1 hb, tabAt_below h.2 hb⟩
theorem Tabs.lt {w : World} (h : Tabs w) : 5 < w.heap.size := World.block_lt_of_cell? _ _ (h.2 0 (by decide))
theorem Bld.fresh (w : World) : Bld 48 w.heap.size w.heap.size [] [] [] (w.alloc (.cells #[.pointer none, .slice none 0 0] 48)) :=
  ⟨Nat.le_refl _, by decide, _, _, Or.inl rfl, Go.heap_alloc_new w _, World.ownsRowF_nil _ _ _ _, fun _ => rfl⟩

set_option maxHeartbeats 2000000 in
theorem quote_w (s : ByteArray) (w : World) (hs : s.size ≤ 1000000) (hT : Tabs w) :
    Calls Tryd.prog 20 #[.string s] w fun e w' => e = .returned (.string ⟨(quoteL s.data.toList).toArray⟩) ∧ Below w.heap.size w w' := by
  obtain ⟨R, hR⟩ : ∃ R, quoteL s.data.toList = R := ⟨_, rfl⟩
  rw [hR]
  unfold quoteL at hR
  by_cases hv : Lib.validD s.data.toList = true
  · rw [if_pos hv] at hR
    by_cases hp : plainB s.data.toList = true
    · rw [if_pos hp] at hR
      subst hR
      go_enter Tryd.func20, Tryd.ntmps20
      go_wp2_with (go_at_call 16; refine (valid_w s _ (by omega) hT.1).mono ?_; rintro e w1 ⟨rfl, b1⟩)
      refine (plain_w s _).mono ?_
      rintro e w2 ⟨rfl, b2⟩
      go_wp2_with fail
      refine (clone_w s _ (by omega)).mono ?_
      rintro e w3 ⟨rfl, b3⟩
      go_wp2
      go_ret
      have s1 := b1.size
      have s2 := b2.size
      exact ⟨by simp, (b1.trans (below_le b2 (by omega))).trans (below_le b3 (by omega))⟩
    · rw [if_neg hp] at hR
      have hp' : plainB s.data.toList = false := by simpa using hp
      go_enter Tryd.func20, Tryd.ntmps20
      go_wp2_with (go_at_call 16; refine (valid_w s _ (by omega) hT.1).mono ?_; rintro e w1 ⟨rfl, b1⟩)
      have s1 := b1.size
      have hT1 := hT.below b1
      refine (plain_w s _).mono ?_
      rintro e w2 ⟨rfl, b2⟩
      have s2 := b2.size
      have hT2 := hT1.below b2
      have hg := hT2.lt
      have B2 : Below w.heap.size w w2 := b1.trans (below_le b2 (by omega))
      clear hT1 hT b1 b2
      go_wp2_with fail
      refine (writeB_w w2.heap.size w2.heap.size [] 39 39 rfl _ (Bld.fresh w2) (by simp) (by simp)).mono ?_
      rintro e w3 ⟨rfl, h3, b3, k3⟩
      have s3 := b3.size
      have s2a : (w2.alloc (.cells #[.pointer none, .slice none 0 0] 48)).heap.size = w2.heap.size + 1 := by simp
      rw [s2a] at s3
      have B3 : Below w2.heap.size w2 w3 := ((Below.refl _ w2).alloc (Nat.le_refl _) _).trans b3
      go_wp2
      go_loopw [] (fun wr => ∃ (pos : Nat) (acc : List UInt8), Bld 48 w2.heap.size w2.heap.size [] [] acc wr ∧ wr.heap[w3.heap.size]? = some (.stringIter s pos) ∧ Below w2.heap.size w2 wr ∧ pos ≤ s.size + 4 ∧ acc.length ≤ 1 + 20 * pos ∧ Hid (acc ++ en (escs (sg (s.data.toList.drop pos))) = 39 :: en (escs (sg s.data.toList)))) (fun wr => s.size - wr.iterPos w3.heap.size)
      case atStart =>
        exact ⟨0, [39], h3.alloc _, World.iter_heap w3 s 0, B3.alloc (by omega) _, by omega, by simp, hid (by simp)⟩
      case round =>
        obtain ⟨pos, acc, hI, hit, hbw, hpz, hal, hH⟩ := hrel
        have hszr : w3.heap.size < wr.heap.size := lt_of_heap hit
        by_cases hp : pos < s.size
        · have hnx : ∀ ty, (Instr.next (.pointer (some ⟨w3.heap.size, 0, none⟩)) true ty).run Tryd.prog wr = _ := fun ty => Lib.run_next_any_at wr w3.heap.size s pos ty hit hp
          have hwd := Lib.width_pos s pos
          have hw4 : (Utf8.decode s pos).2 ≤ 4 := by
            rw [Lib.decode_at]
            rcases Lib.decodeN_shape (s.size - pos) (s.get! pos).toNat (s.get! (pos + 1)).toNat (s.get! (pos + 2)).toNat (s.get! (pos + 3)).toNat with ⟨_, e⟩ | ⟨_, _, _, _, e⟩ | ⟨_, _, _, _, _, _, e⟩ | ⟨_, _, _, _, _, _, _, e⟩ | e
            all_goals (rw [e]; dsimp only; omega)
          have hrl := Lib.rune_le s pos
          have hit2 := Lib.iterAt_heap wr w3.heap.size s pos (pos + (Utf8.decode s pos).2) hit
          have hbw2 := Lib.below_iterAt hbw (k := w3.heap.size) (by omega) s (pos + (Utf8.decode s pos).2)
          have hI2 := hI.iterAt hit (pos + (Utf8.decode s pos).2)
          have hsz2 : w2.heap.size ≤ (wr.iterAt w3.heap.size s (pos + (Utf8.decode s pos).2)).heap.size := by rw [Lib.iterAt_size]; omega
          have hTr := tabAt_B hT2.2 hg hbw2
          have hst : Hid (sg (s.data.toList.drop pos) = _) := hid (sg_at s pos hp)
          go_wp2_with fail
          refine (writeSign_w w2.heap.size w2.heap.size acc (Utf8.decode s pos).1 hrl _ hI2 (by omega) hsz2 hg hTr).mono ?_
          rintro e W1 ⟨rfl, h1, bb1, k1⟩
          go_wp2
          go_roundw
          case rel =>
            have hl5 := escR_len (Utf8.decode s pos).1
            have hl20 := en_length_le (escR (Utf8.decode s pos).1)
            refine ⟨pos + (Utf8.decode s pos).2, _, h1, k1.iter hit2 (by omega), hbw2.trans bb1, by omega, by rw [List.length_append]; omega, hid ?_⟩
            have h1 := hH.out
            rw [hst.out] at h1
            rw [← h1]
            simp [escs, en_append]
          case measure =>
            simp only [World.iterPos, k1.iter hit2 (by omega), hit]
            omega
        · have hnx : ∀ ty, (Instr.next (.pointer (some ⟨w3.heap.size, 0, none⟩)) true ty).run Tryd.prog wr = _ := fun ty => Lib.run_next_end_at wr w3.heap.size s pos ty hit hp
          have hacc := hH.out
          rw [sg_end s pos hp] at hacc
          simp only [escs, en, List.append_nil] at hacc
          go_wp2_with fail
          refine (writeB_w w2.heap.size w2.heap.size acc 39 39 rfl _ hI (by omega) (by omega)).mono ?_
          rintro e W1 ⟨rfl, h1, bb1, k1⟩
          go_wp2_with fail
          refine (string_w _ w2.heap.size w2.heap.size [] [] _ _ h1).mono ?_
          rintro e W2 ⟨rfl, bb2⟩
          go_wp2
          go_ret
          have hfin : R = 39 :: (en (escs (sg s.data.toList)) ++ [39]) := by
            rw [← hR]
            show e1 39 ++ en (escs (sg s.data.toList) ++ [39]) = _
            rw [en_append, en_one]; rfl
          rw [hfin]
          exact ⟨rfl, B2.trans (below_le ((hbw.trans bb1).trans bb2) (by omega))⟩
  · rw [if_neg hv] at hR
    subst hR
    have hv' : Lib.validD s.data.toList = false := by simpa using hv
    go_enter Tryd.func20, Tryd.ntmps20
    go_wp2_with (go_at_call 16; refine (valid_w s _ (by omega) hT.1).mono ?_; rintro e w1 ⟨rfl, b1⟩)
    go_ret
    exact ⟨rfl, b1⟩
end Go.Proofs.YtppfgcbigohkkaaDoor
