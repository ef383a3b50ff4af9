/- Texts of mine, one behind the other: TextRd8, TextRd9, TextRdA, OrdLess, OrdMath, OrdCT, OrdRB. -/
import Derived.Test.YtjacoodfhkaioaaGreatDoorSbM
import Derived.Test.YtjacoodfhkaioaaGreatDoorSbH
import Derived.Test.YtjacoodfhkaioaaGreatDoorSbF
import Derived.Lib.RuneCountTail
import Derived.Laws.IdiomStrings
import Derived.Deep.QuietTactic
import Derived.BigQuiet
import Derived.Deep.OwnRows
import Derived.Test.YtjacoodfhkaioaaGreatDoorSbG
namespace Go.Proofs.YtjacoodfhkaioaaGreatDoor
open Go.ChangeShapes Go.WideShapes Go.ChangeAt Go.RowKit Go.Shelf
set_option linter.unusedSimpArgs false
set_option linter.unusedVariables false
set_option maxRecDepth 2000

def binL (r : List UInt8) : Option Tm × List UInt8 := binGo (r.length + 1) r []
theorem bin_one (k : Nat) (r : List UInt8) (acc : List Nat) : binGo (k + 1) r acc =
    if skB 62 r then (if skB 62 (skR 62 r) then (some (binT acc), skR 62 (skR 62 r)) else (none, skR 62 (skR 62 r)))
    else if acc ≠ [] ∧ skB 44 r = false then (none, r)
    else
      if nmB 255 ((if acc = [] then r else skR 44 r).takeWhile digB) then binGo k ((if acc = [] then r else skR 44 r).dropWhile digB) (acc ++ [(nmN 255 ((if acc = [] then r else skR 44 r).takeWhile digB)).toNat])
      else (none, (if acc = [] then r else skR 44 r).dropWhile digB) := rfl
theorem Kpt.then_below {F : Nat → Prop} {a b c : World} (h : Kpt F a b) (k : Below a.heap.size b c) : Kpt F a c :=
  ⟨k.os.trans h.os, k.tape.trans h.tape, k.output.trans h.output, Nat.le_trans h.size k.size, fun i hi hn => (k.block i hi).trans (h.block i hi hn)⟩
theorem bts_snoc (l : List Nat) (m : Nat) : bts (l ++ [m]) = bts l ++ [.int .u8 (m : Int)] := by simp [bts]
theorem lm_snoc {l : List Nat} {m : Nat} (h : Lm 256 l) (hm : m < 256) : Lm 256 (l ++ [m]) := by
  intro x hx
  rcases List.mem_append.1 hx with hx | hx
  · exact h x hx
  · simp at hx; omega
set_option maxHeartbeats 4000000 in
theorem bin_w (g : Nat) (r : List UInt8) (ov : Value) (w : World) (hr : r.length ≤ 1000000) (h : Rdr g r ov w) (hg : ∀ w', Kpt (fun b => b = g) w w' → Tabs w') :
    Calls Tryz.prog 65 #[.pointer (some ⟨g, 0, none⟩)] w fun e w' => ∃ v, e = .returned v ∧ LeafV w.heap.size (binL r).1 v w' ∧ Rdr g (binL r).2 ov w' ∧ Kpt (fun b => b = g) w w' := by
  obtain ⟨R, hR⟩ : ∃ R, binL r = R := ⟨_, rfl⟩
  rw [hR]
  have hRH := hid hR
  clear hR
  have hgl := h.lt
  have hH := hid h
  have hgH := hid hg
  clear h hg
  go_enter Tryz.func65, Tryz.ntmps65
  go_wp2_with fail
  go_loopw [3] (fun s wr => ∃ (acc : List Nat) (r1 : List UInt8) (o : Option Addr) (c k : Nat), s = .slice o acc.length c ∧ Hid (wr.ownsRow w.heap.size 5 1 (.slice o acc.length c) acc.length (bts acc)) ∧ Hid (Rdr g r1 ov wr) ∧ Hid (Kpt (fun b => b = g) w wr) ∧ Hid (Lm 256 acc) ∧ acc.length + r1.length ≤ r.length ∧ r1.length ≤ k ∧ Hid (binGo (k + 1) r1 acc = R)) (fun _ wr => restLen g wr)
  case atStart => exact ⟨[], r, none, 0, r.length, rfl, hid (World.ownsRow_nil _ _ _ _), hH, hid (Kpt.refl _ _), hid (Lm.nil _), by simp, Nat.le_refl _, hRH⟩
  case round =>
    obtain ⟨acc, r1, o, c, k, rfl, hown, hRd, hK, hLm, hlen, hk, hB⟩ := hrel
    have c1 := skip_w g r1 ov 62 62 rfl (by decide) wr hRd.out (hgH.out _ hK.out)
    have hBo := hB.out
    rw [bin_one] at hBo
    have hBH := hid hBo
    clear hBo hB
    obtain ⟨s1, hs1⟩ : ∃ s1, skB 62 r1 = s1 := ⟨_, rfl⟩
    obtain ⟨q1, hq1⟩ : ∃ q1, skR 62 r1 = q1 := ⟨_, rfl⟩
    rw [hs1, hq1] at c1
    have hs1H := hid hs1
    have hq1H := hid hq1
    clear hs1 hq1
    cases s1 with
    | true =>
      go_wp2_with fail
      refine c1.mono ?_
      rintro e w1 ⟨rfl, h1, k1⟩
      have kk1 := hid (hK.out.trans k1)
      have own1 := hid (k1.own hown.out (fun j hj e => by omega))
      have h1H := hid h1
      have c2 := skip_w g q1 ov 62 62 rfl (by decide) w1 h1 (hgH.out _ kk1.out)
      obtain ⟨s2, hs2⟩ : ∃ s2, skB 62 q1 = s2 := ⟨_, rfl⟩
      obtain ⟨q2, hq2⟩ : ∃ q2, skR 62 q1 = q2 := ⟨_, rfl⟩
      have hRq : Hid ((if s2 then some (binT acc) else none, q2) = R) := hid (by
        have := hBH.out
        rw [hs1H.out, hq1H.out, hs2, hq2] at this
        rw [← this]
        cases s2 <;> rfl)
      rw [hs2, hq2] at c2
      clear hs2 hq2 c1 h1 k1
      go_wp2_with fail
      refine c2.mono ?_
      rintro e w2 ⟨rfl, h2, k2⟩
      have kk2 := hid (kk1.out.trans k2)
      have own2 := hid (k2.own own1.out (fun j hj e => by omega))
      have h2H := hid h2
      clear c2 h2 k2
      cases s2 with
      | false =>
        go_wp2
        go_ret
        rw [← hRq.out]
        exact ⟨_, rfl, rfl, h2H.out, kk2.out⟩
      | true =>
        have hcap : acc.length ≤ c := by
          rcases own2.out.2 with ⟨e, h0⟩ | ⟨q, c', cur, e, hq, hc, hn, hm, _⟩
          · omega
          · injection e with e1 e2 e3
            omega
        have c3 := Bin_w acc o c w2 hcap (by omega) (own_lsB own2.out hLm.out)
        go_wp2_with fail
        refine c3.mono ?_
        rintro e w3 ⟨v3, rfl, hT3, b3⟩
        have hz2 := hid kk2.out.size
        have hTT := hid (TV.mono (Z' := Zw w.heap.size w3) (fun k hk hz => ⟨Nat.le_trans hz2.out hz.1, hz.2⟩) _ _ hT3)
        obtain ⟨k', neg', od', ld', cd', nm', n', ol', ll', cl', ob', lb', cb', rfl⟩ := hT3.form
        clear c3 hT3
        go_wp2
        go_ret
        rw [← hRq.out]
        exact ⟨_, rfl, ⟨_, rfl, hTT.out⟩, h2H.out.below b3, kk2.out.trans (Kpt.of_below b3)⟩
    | false =>
      have hq : q1 = r1 := by rw [← hq1H.out]; exact skR_no hs1H.out
      subst hq
      have hBf : Hid ((if acc ≠ [] ∧ skB 44 q1 = false then (none, q1)
    else
      if nmB 255 ((if acc = [] then q1 else skR 44 q1).takeWhile digB) then binGo k ((if acc = [] then q1 else skR 44 q1).dropWhile digB) (acc ++ [(nmN 255 ((if acc = [] then q1 else skR 44 q1).takeWhile digB)).toNat])
      else (none, (if acc = [] then q1 else skR 44 q1).dropWhile digB)) = R) := hid (by
        have := hBH.out
        rw [hs1H.out, if_neg (by simp)] at this
        exact this)
      clear hBH
      go_wp2_with fail
      refine c1.mono ?_
      rintro e w1 ⟨rfl, h1, k1⟩
      have kk1 := hid (hK.out.trans k1)
      have own1 := hid (k1.own hown.out (fun j hj e => by omega))
      have h1H := hid h1
      by_cases ha : acc = []
      · have hal : ¬ (0 : Int) < (acc.length : Int) := by rw [ha]; simp
        have haH := hid ha
        clear ha
        obtain ⟨wX, hwX⟩ : ∃ wX, wX = w1 := ⟨_, rfl⟩
        obtain ⟨rX, hrX⟩ : ∃ rX, rX = q1 := ⟨_, rfl⟩
        have hX : Hid (Rdr g rX ov wX) := hid (by rw [hwX, hrX]; exact h1)
        have kX : Hid (Kpt (fun b => b = g) w wX) := hid (by rw [hwX]; exact kk1.out)
        have ownX : Hid (wX.ownsRow w.heap.size 5 1 (.slice o acc.length c) acc.length (bts acc)) := hid (by rw [hwX]; exact own1.out)
        have hBX : Hid ((if nmB 255 (rX.takeWhile digB) then binGo k (rX.dropWhile digB) (acc ++ [(nmN 255 (rX.takeWhile digB)).toNat]) else (none, rX.dropWhile digB)) = R) := hid (by
          have := hBf.out
          rw [if_neg (fun h => h.1 haH.out), if_pos haH.out] at this
          rw [hrX]
          exact this)
        have hlX : rX.length ≤ q1.length := by rw [hrX]; exact Nat.le_refl _
        clear hrX c1 h1 k1
        subst hwX
        have c3 := rdnum_w g rX ov 255 wX (by omega) hX.out
        obtain ⟨B, hBe⟩ : ∃ B, nmB 255 (rX.takeWhile digB) = B := ⟨_, rfl⟩
        obtain ⟨N, hNe⟩ : ∃ N, nmN 255 (rX.takeWhile digB) = N := ⟨_, rfl⟩
        obtain ⟨r3, hr3⟩ : ∃ r3, rX.dropWhile digB = r3 := ⟨_, rfl⟩
        rw [hBe, hNe, hr3] at c3
        have hBR := hBX.out
        rw [hBe, hNe, hr3] at hBR
        have hBRH := hid hBR
        clear hBR
        cases B with
        | false =>
          clear hBe hNe hr3
          go_wp2_with fail
          refine c3.mono ?_
          rintro e w3 ⟨rfl, h3, k3⟩
          have h3H := hid h3
          have kk3 := hid (kX.out.trans k3)
          have hRq : Hid ((none, r3) = R) := hid (by rw [← hBRH.out]; rfl)
          clear c3 h3 k3
          go_wp2
          go_ret
          rw [← hRq.out]
          exact ⟨_, rfl, rfl, h3H.out, kk3.out⟩
        | true =>
          have hlt := nm_pos hBe
          rw [hr3] at hlt
          have hrg := nm_range (pneg_digs rX) hBe
          rw [hNe] at hrg
          obtain ⟨m, rfl⟩ := Int.eq_ofNat_of_zero_le hrg.1
          have hm : m < 256 := by have := hrg.2; omega
          have hmz : (m : Int) < 256 := by omega
          have hwm : IntKind.u8.wrap (m : Int) = (m : Int) := by rw [IntKind.wrap_u8]; omega
          clear hBe hNe hr3 hrg
          go_wp2_with fail
          refine c3.mono ?_
          rintro e w3 ⟨rfl, h3, k3⟩
          have kk3 := kX.out.trans k3
          have own3 := k3.own ownX.out (fun j hj e => by omega)
          obtain ⟨i0, hi, hz0, hz1, hz2⟩ := info_parts infoB8
          have hR1 := World.ownsRow.alloc own3 (.cells #[.int .u8 (m : Int)] 5)
          obtain ⟨v', w4, hrn, hown4, hg4, _⟩ := run_append_own (P := Tryz.prog) (w3.alloc (.cells #[.int .u8 (m : Int)] 5)) w.heap.size 25 25 5 i0 (.int .u8 0) 1 1 Tryz.underlying25 hi hz0 hz1 hz2 rfl (by decide) (.slice o acc.length c) acc.length (bts acc) hR1 ⟨w3.heap.size, 0, none⟩ 1 1 [.int .u8 (m : Int)] rfl (cell_one_new _ _ _) (by intro u hu; simp at hu; subst hu; rfl) (by unfold maxLen; omega) (by omega) (by have := kk3.size; simp; omega)
          obtain ⟨_, hb'⟩ := kept_grown hR1 hg4 (by have := kk3.size; simp; omega)
          have hb : Below w.heap.size w3 w4 := ((Below.refl _ w3).alloc kk3.size _).trans hb'
          obtain ⟨o4, c4, rfl⟩ := own_form hown4
          have kk4 := hid (kk3.then_below hb)
          have h4H : Hid (Rdr g r3 ov w4) := hid ⟨(hb.block g hgl).trans h3.at_⟩
          have e4 : acc.length + 1 = (acc ++ [m]).length := by simp
          have own4 : Hid (w4.ownsRow w.heap.size 5 1 (.slice o4 (acc ++ [m]).length c4) (acc ++ [m]).length (bts (acc ++ [m]))) := hid (by rw [← e4, bts_snoc]; exact hown4)
          have hLm4 : Hid (Lm 256 (acc ++ [m])) := hid (lm_snoc hLm.out hm)
          have e4H := hid e4
          obtain ⟨k, rfl⟩ : ∃ k0, k = k0 + 1 := ⟨k - 1, by omega⟩
          have hfin : Hid (binGo (k + 1) r3 (acc ++ [m]) = R) := hid (by rw [← hBRH.out]; rfl)
          have hm1 : restLen g w4 < restLen g wr := by rw [h4H.out.len, hRd.out.len]; omega
          have hm1H := hid hm1
          have hl4 : (acc ++ [m]).length + r3.length ≤ r.length := by simp; omega
          have hl4H := hid hl4
          clear c3 h3 k3 kk3 own3 hR1 hown4 hg4 hb' hb e4 hm1 hl4
          go_wp2_with (at_builtin; refine Lib.wpList_append_run _ rfl _ _ _ _ rfl _ _ rfl rfl _ _ hrn ?_)
          exact ⟨⟨acc ++ [m], r3, o4, c4, k, by rw [← e4H.out], own4, h4H, kk4, hLm4, hl4H.out, by omega, hfin⟩, hm1H.out⟩
      · have hal : (0 : Int) < (acc.length : Int) := by
          have : acc.length ≠ 0 := fun h => ha (List.eq_nil_of_length_eq_zero h)
          omega
        have haH := hid ha
        clear ha
        have c2 := skip_w g q1 ov 44 44 rfl (by decide) w1 h1 (hgH.out _ kk1.out)
        obtain ⟨s2, hs2⟩ : ∃ s2, skB 44 q1 = s2 := ⟨_, rfl⟩
        obtain ⟨rX, hrX⟩ : ∃ rX, skR 44 q1 = rX := ⟨_, rfl⟩
        have hlX : rX.length ≤ q1.length := by rw [← hrX]; exact skR_le _ _
        rw [hs2, hrX] at c2
        have hs2H := hid hs2
        have hrXH := hid hrX
        clear hs2 hrX c1 h1 k1
        cases s2 with
        | false =>
          have hRq : Hid ((none, q1) = R) := hid (by
            rw [← hBf.out, if_pos ⟨haH.out, hs2H.out⟩])
          have hqr : rX = q1 := by rw [← hrXH.out]; exact skR_no hs2H.out
          subst hqr
          go_wp2_with fail
          refine c2.mono ?_
          rintro e w2 ⟨rfl, h2, k2⟩
          have h2H := hid h2
          have kk2 := hid (kk1.out.trans k2)
          clear c2 h2 k2
          go_wp2
          go_ret
          rw [← hRq.out]
          exact ⟨_, rfl, rfl, h2H.out, kk2.out⟩
        | true =>
          go_wp2_with fail
          refine c2.mono ?_
          rintro e wX ⟨rfl, h2, k2⟩
          have hX := hid h2
          have kX := hid (kk1.out.trans k2)
          have ownX := hid (k2.own own1.out (fun j hj e => by omega))
          have hBX : Hid ((if nmB 255 (rX.takeWhile digB) then binGo k (rX.dropWhile digB) (acc ++ [(nmN 255 (rX.takeWhile digB)).toNat]) else (none, rX.dropWhile digB)) = R) := hid (by
            have := hBf.out
            rw [if_neg (fun h => by have := h.2; rw [hs2H.out] at this; cases this), if_neg haH.out, hrXH.out] at this
            exact this)
          clear c2 h2 k2
          have c3 := rdnum_w g rX ov 255 wX (by omega) hX.out
          obtain ⟨B, hBe⟩ : ∃ B, nmB 255 (rX.takeWhile digB) = B := ⟨_, rfl⟩
          obtain ⟨N, hNe⟩ : ∃ N, nmN 255 (rX.takeWhile digB) = N := ⟨_, rfl⟩
          obtain ⟨r3, hr3⟩ : ∃ r3, rX.dropWhile digB = r3 := ⟨_, rfl⟩
          rw [hBe, hNe, hr3] at c3
          have hBR := hBX.out
          rw [hBe, hNe, hr3] at hBR
          have hBRH := hid hBR
          clear hBR
          cases B with
          | false =>
            clear hBe hNe hr3
            go_wp2_with fail
            refine c3.mono ?_
            rintro e w3 ⟨rfl, h3, k3⟩
            have h3H := hid h3
            have kk3 := hid (kX.out.trans k3)
            have hRq : Hid ((none, r3) = R) := hid (by rw [← hBRH.out]; rfl)
            clear c3 h3 k3
            go_wp2
            go_ret
            rw [← hRq.out]
            exact ⟨_, rfl, rfl, h3H.out, kk3.out⟩
          | true =>
            have hlt := nm_pos hBe
            rw [hr3] at hlt
            have hrg := nm_range (pneg_digs rX) hBe
            rw [hNe] at hrg
            obtain ⟨m, rfl⟩ := Int.eq_ofNat_of_zero_le hrg.1
            have hm : m < 256 := by have := hrg.2; omega
            have hmz : (m : Int) < 256 := by omega
            have hwm : IntKind.u8.wrap (m : Int) = (m : Int) := by rw [IntKind.wrap_u8]; omega
            clear hBe hNe hr3 hrg
            go_wp2_with fail
            refine c3.mono ?_
            rintro e w3 ⟨rfl, h3, k3⟩
            have kk3 := kX.out.trans k3
            have own3 := k3.own ownX.out (fun j hj e => by omega)
            obtain ⟨i0, hi, hz0, hz1, hz2⟩ := info_parts infoB8
            have hR1 := World.ownsRow.alloc own3 (.cells #[.int .u8 (m : Int)] 5)
            obtain ⟨v', w4, hrn, hown4, hg4, _⟩ := run_append_own (P := Tryz.prog) (w3.alloc (.cells #[.int .u8 (m : Int)] 5)) w.heap.size 25 25 5 i0 (.int .u8 0) 1 1 Tryz.underlying25 hi hz0 hz1 hz2 rfl (by decide) (.slice o acc.length c) acc.length (bts acc) hR1 ⟨w3.heap.size, 0, none⟩ 1 1 [.int .u8 (m : Int)] rfl (cell_one_new _ _ _) (by intro u hu; simp at hu; subst hu; rfl) (by unfold maxLen; omega) (by omega) (by have := kk3.size; simp; omega)
            obtain ⟨_, hb'⟩ := kept_grown hR1 hg4 (by have := kk3.size; simp; omega)
            have hb : Below w.heap.size w3 w4 := ((Below.refl _ w3).alloc kk3.size _).trans hb'
            obtain ⟨o4, c4, rfl⟩ := own_form hown4
            have kk4 := hid (kk3.then_below hb)
            have h4H : Hid (Rdr g r3 ov w4) := hid ⟨(hb.block g hgl).trans h3.at_⟩
            have e4 : acc.length + 1 = (acc ++ [m]).length := by simp
            have own4 : Hid (w4.ownsRow w.heap.size 5 1 (.slice o4 (acc ++ [m]).length c4) (acc ++ [m]).length (bts (acc ++ [m]))) := hid (by rw [← e4, bts_snoc]; exact hown4)
            have hLm4 : Hid (Lm 256 (acc ++ [m])) := hid (lm_snoc hLm.out hm)
            have e4H := hid e4
            obtain ⟨k, rfl⟩ : ∃ k0, k = k0 + 1 := ⟨k - 1, by omega⟩
            have hfin : Hid (binGo (k + 1) r3 (acc ++ [m]) = R) := hid (by rw [← hBRH.out]; rfl)
            have hm1 : restLen g w4 < restLen g wr := by rw [h4H.out.len, hRd.out.len]; omega
            have hm1H := hid hm1
            have hl4 : (acc ++ [m]).length + r3.length ≤ r.length := by simp; omega
            have hl4H := hid hl4
            clear c3 h3 k3 kk3 own3 hR1 hown4 hg4 hb' hb e4 hm1 hl4
            go_wp2_with (at_builtin; refine Lib.wpList_append_run _ rfl _ _ _ _ rfl _ _ rfl rfl _ _ hrn ?_)
            exact ⟨⟨acc ++ [m], r3, o4, c4, k, by rw [← e4H.out], own4, h4H, kk4, hLm4, hl4H.out, by omega, hfin⟩, hm1H.out⟩
end Go.Proofs.YtjacoodfhkaioaaGreatDoor
namespace Go.Proofs.YtjacoodfhkaioaaGreatDoor
open Go.ChangeShapes Go.WideShapes Go.ChangeAt Go.RowKit Go.Shelf
set_option linter.unusedSimpArgs false
set_option linter.unusedVariables false
set_option maxRecDepth 2000

/-- what begins: a term that is whole (or none), or a row that ends with this sign -/
inductive Bg where
  | lf (o : Option Tm)
  | rw (c : UInt8)
def BgV (B : Nat) (a : Bg) (v : Value) (w : World) : Prop :=
  match a with
  | .lf o => LeafV B o v w
  | .rw c => ∃ b, v = .iface 69 (.pointer (some ⟨b, 0, none⟩)) ∧ B ≤ b ∧ w.heap[b]? = some (.cells #[.int .i32 (c.toNat : Int), .slice none 0 0, .bool false] 109 (0, 0))
def opL (c : UInt8) (T : Tm) (r : List UInt8) : Bg × List UInt8 := if skB c r then (.lf (some T), skR c r) else (.rw c, r)
theorem tv_bare {Z Z' : Nat → Prop} {w w' : World} {k : Int} {neg : Bool} {nm : ByteArray} {n : Int} {v : Value} (h : TV Z w (.mk k neg [] nm n [] []) v) : TV Z' w' (.mk k neg [] nm n [] []) v := by
  unfold TV at h ⊢
  obtain ⟨od, cd, ol, cl, ob, cb, rfl, h1, h2, h3, h4, h5, h6, h7⟩ := h
  exact ⟨od, cd, ol, cl, ob, cb, rfl, Ls.nil _ _ _, h2, h3, LsB.nil _ _ _, h5, h6, by unfold TR; trivial⟩
set_option maxHeartbeats 2000000 in
theorem opened_w (B : Nat) (g : Nat) (r : List UInt8) (ov : Value) (c : UInt8) (k : Int) (hk : k = (c.toNat : Int)) (hc : c.toNat < 128) (K : Int) (neg : Bool) (nm : ByteArray) (n : Int) (x : Value) (w : World) (h : Rdr g r ov w) (hT : Tabs w) (hB : B ≤ w.heap.size) (hx : TV (Low w) w (.mk K neg [] nm n [] []) x) :
    Calls Tryz.prog 62 #[.pointer (some ⟨g, 0, none⟩), .int .i32 k, x] w fun e w' => ∃ v, e = .returned v ∧ BgV B (opL c (.mk K neg [] nm n [] []) r).1 v w' ∧ Rdr g (opL c (.mk K neg [] nm n [] []) r).2 ov w' ∧ Kpt (fun b => b = g) w w' := by
  subst hk
  obtain ⟨K', neg', od, ld, cd, nm', n', ol, ll, cl, ob, lb, cb, rfl⟩ := hx.form
  obtain ⟨W, hW⟩ : ∃ W, W = w.alloc (.cells #[.int .i64 K', .bool neg', .slice od ld cd, .string nm', .int .i64 n', .slice ol ll cl, .slice ob lb cb] 27) := ⟨_, rfl⟩
  have bW : Below w.heap.size w W := by rw [hW]; exact (Below.refl _ w).alloc (Nat.le_refl _) _
  have hgW : W.heap[w.heap.size]? = some (.cells #[.int .i64 K', .bool neg', .slice od ld cd, .string nm', .int .i64 n', .slice ol ll cl, .slice ob lb cb] 27 (0, 0)) := by rw [hW]; exact heap_alloc_new w _
  have hszW : W.heap.size = w.heap.size + 1 := by rw [hW]; simp
  have c1 := skip_w g r ov c _ rfl hc W (h.below bW) (hT.below bW)
  have hglH := hid h.lt
  have hszH := hid hszW
  have hgWH := hid hgW
  have hxH := hid hx
  unfold opL
  obtain ⟨s1, hs1⟩ : ∃ s1, skB c r = s1 := ⟨_, rfl⟩
  obtain ⟨q1, hq1⟩ : ∃ q1, skR c r = q1 := ⟨_, rfl⟩
  have hqq : Hid (s1 = false → q1 = r) := hid (fun e => by rw [← hq1]; exact skR_no (by rw [hs1, e]))
  rw [hs1, hq1] at c1
  rw [hs1, hq1]
  clear hs1 hq1 h hT hgW hszW hx
  unfold tmV
  go_enter Tryz.func62, Tryz.ntmps62
  go_upto_region 1 with fail
  rw [← hW]
  clear hW
  go_wp2_with fail
  refine c1.mono ?_
  rintro e w1 ⟨rfl, h1, k1⟩
  have kk1 : Hid (Kpt (fun b => b = g) w w1) := hid ((Kpt.of_below bW).trans k1)
  have hg1 : w1.heap[w.heap.size]? = some (.cells #[.int .i64 K', .bool neg', .slice od ld cd, .string nm', .int .i64 n', .slice ol ll cl, .slice ob lb cb] 27 (0, 0)) := (k1.block _ (by rw [hszH.out]; omega) (fun e => by have := hglH.out; omega)).trans hgWH.out
  obtain ⟨y0, y1, y2, y3, y4, y5, y6⟩ := cell7 hg1
  have h1H := hid h1
  have hz1 := hid kk1.out.size
  clear c1 h1 k1 hg1
  cases s1 with
  | true =>
    go_wp2
    go_ret
    exact ⟨_, rfl, ⟨_, rfl, tv_bare hxH.out⟩, h1H.out, kk1.out⟩
  | false =>
    have hqr := hqq.out rfl
    subst hqr
    go_wp2
    go_ret
    refine ⟨_, rfl, ⟨w1.heap.size, rfl, Nat.le_trans hB hz1.out, heap_alloc_new w1 _⟩, h1H.out.below ((Below.refl _ _).alloc (Nat.le_refl _) _), kk1.out.trans (Kpt.of_below ((Below.refl _ _).alloc (Nat.le_refl _) _))⟩
theorem look_dig (r : List UInt8) : digX (Lib.decodeGo (bs r)).1 = (match r with | [] => false | b :: _ => digB b) := by
  cases r with
  | nil => rw [decGo_nil]; rfl
  | cons b t =>
    rw [decGo_cons]
    have h := (dec_at (r := b :: t) (pos := 0) (b := b) rfl).1
    rw [← Lib.decodeL_drop, bs_list] at h
    exact h
set_option maxHeartbeats 1000000 in
theorem look_w (g : Nat) (r : List UInt8) (ov : Value) (w : World) (h : Rdr g r ov w) (hT : Tabs w) :
    Calls Tryz.prog 70 #[.pointer (some ⟨g, 0, none⟩)] w fun e w' => e = .returned (.int .i32 ((Lib.decodeGo (bs r)).1 : Int)) ∧ Below w.heap.size w w' := by
  have c1 := decodeRune_w (bs r) w hT
  obtain ⟨x, hx⟩ : ∃ x, (Lib.decodeGo (bs r)).1 = x := ⟨_, rfl⟩
  obtain ⟨n, hn⟩ : ∃ n, (Lib.decodeGo (bs r)).2 = n := ⟨_, rfl⟩
  rw [hx, hn] at c1
  rw [hx]
  clear hx hn
  obtain ⟨y0, y1, f0, f1⟩ := h.cells
  clear h hT
  go_enter Tryz.func70, Tryz.ntmps70
  go_wp2_with fail
  refine c1.mono ?_
  rintro e w1 ⟨rfl, b1⟩
  go_wp2
  go_ret
  exact ⟨rfl, b1⟩
end Go.Proofs.YtjacoodfhkaioaaGreatDoor
namespace Go.Proofs.YtjacoodfhkaioaaGreatDoor
open Go.ChangeShapes Go.WideShapes Go.ChangeAt Go.RowKit Go.Shelf
set_option linter.unusedSimpArgs false
set_option linter.unusedVariables false
set_option maxRecDepth 2000

def lfL (p : Option Tm × List UInt8) : Bg × List UInt8 := (.lf p.1, p.2)
def digH (r : List UInt8) : Bool := match r with | [] => false | b :: _ => digB b
theorem look_dig2 (r : List UInt8) : digX (Lib.decodeGo (bs r)).1 = digH r := by rw [look_dig]; cases r <;> rfl
def beginL (r : List UInt8) : Bg × List UInt8 :=
  if skB 91 r then opL 93 nilT (skR 91 r)
  else if skB 123 r then opL 125 (tupT []) (skR 123 r)
  else if skB 60 r then (if skB 60 (skR 60 r) then lfL (binL (skR 60 (skR 60 r))) else lfL (pidL (skR 60 r)))
  else if skB 35 r then lfL (refL (skR 35 r))
  else if skB 45 r then lfL (intL [45] (skR 45 r))
  else if digH r then lfL (intL [] r) else lfL (nameL r)
theorem LeafV.mono {B B' : Nat} {o : Option Tm} {v : Value} {w : World} (h : LeafV B o v w) (hB : B' ≤ B) : LeafV B' o v w := by
  cases o with
  | none => exact h
  | some T =>
    obtain ⟨x, rfl, hT⟩ := h
    exact ⟨x, rfl, TV.mono (fun k hk hz => ⟨Nat.le_trans hB hz.1, hz.2⟩) _ _ hT⟩
set_option maxHeartbeats 4000000 in
theorem begin_w (g : Nat) (r : List UInt8) (ov : Value) (w0 : World) (hr : r.length ≤ 900000) (h : Rdr g r ov w0) (h00 : ∀ b, r[0]? = some b → stB b.toNat = true) (hg : ∀ w', Kpt (fun b => b = g) w0 w' → TabsQ w') :
    Calls Tryz.prog 34 #[.pointer (some ⟨g, 0, none⟩)] w0 fun e w' => ∃ v, e = .returned v ∧ BgV w0.heap.size (beginL r).1 v w' ∧ Rdr g (beginL r).2 ov w' ∧ Kpt (fun b => b = g) w0 w' := by
  obtain ⟨R, hR⟩ : ∃ R, beginL r = R := ⟨_, rfl⟩
  rw [hR]
  have hRH := hid hR
  clear hR
  have h0 := hid h
  have k0 := hid (Kpt.refl (fun b => b = g) w0)
  clear h
  go_enter Tryz.func34, Tryz.ntmps34
  have h00H := hid h00
  clear h00
  cases s91 : skB 91 r with
  | true =>
    have c91 := skip_w g r ov 91 91 rfl (by decide) w0 h0.out (hg _ k0.out).1
    rw [s91] at c91
    have s91H := hid s91
    clear s91
    obtain ⟨q, hq⟩ : ∃ q, skR 91 r = q := ⟨_, rfl⟩
    have hql : q.length ≤ r.length := by rw [← hq]; exact skR_le _ _
    rw [hq] at c91
    have hqH := hid hq
    clear hq
    go_wp2_with fail
    refine c91.mono ?_
    rintro e wy ⟨rfl, h', k'⟩
    have hy := hid h'
    have ky := hid (k0.out.trans k')
    clear h' k' c91
    have c2 := Nil_w wy
    go_wp2_with fail
    refine c2.mono ?_
    rintro e wz ⟨rfl, bz⟩
    have kz := hid (ky.out.trans (Kpt.of_below bz))
    have hz := hid (hy.out.below bz)
    have cl := opened_w w0.heap.size g q ov 93 93 rfl (by decide) 5 false noS 0 (tmV 5 false nilS noS 0 nilS nilS) wz hz.out (hg _ kz.out).1 kz.out.size (tv_flat 5 noS 0)
    have hRq : Hid (opL 93 nilT q = R) := hid (by rw [← hRH.out]; unfold beginL; rw [s91H.out, if_pos rfl, hqH.out])
    rw [show (Tm.mk 5 false [] noS 0 [] []) = nilT from rfl] at cl
    clear c2 bz
    go_wp2_with fail
    refine cl.mono ?_
    rintro e w9 ⟨v9, rfl, h91', h92', h93'⟩
    have hl1 := hid h91'
    have hl2 := hid h92'
    have hl3 := hid (kz.out.trans h93')
    clear cl h91' h92' h93'
    go_wp2
    go_ret
    rw [← hRq.out]
    exact ⟨_, rfl, hl1.out, hl2.out, hl3.out⟩
  | false =>
    have c91 := skip_w g r ov 91 91 rfl (by decide) w0 h0.out (hg _ k0.out).1
    rw [s91, skR_no s91] at c91
    have s91H := hid s91
    clear s91
    go_wp2_with fail
    refine c91.mono ?_
    rintro e w1 ⟨rfl, h', k'⟩
    have h1 := hid h'
    have k1 := hid (k0.out.trans k')
    clear h' k' c91
    cases s123 : skB 123 r with
    | true =>
      have c123 := skip_w g r ov 123 123 rfl (by decide) w1 h1.out (hg _ k1.out).1
      rw [s123] at c123
      have s123H := hid s123
      clear s123
      obtain ⟨q, hq⟩ : ∃ q, skR 123 r = q := ⟨_, rfl⟩
      have hql : q.length ≤ r.length := by rw [← hq]; exact skR_le _ _
      rw [hq] at c123
      have hqH := hid hq
      clear hq
      go_wp2_with fail
      refine c123.mono ?_
      rintro e wy ⟨rfl, h', k'⟩
      have hy := hid h'
      have ky := hid (k1.out.trans k')
      clear h' k' c123
      have c2 := Tuple_w [] none 0 wy (by simp) (by simp [partsL]) (by simp) (by intro p hp; simp [partsL] at hp) (by unfold TR; trivial)
      go_wp2_with fail
      refine c2.mono ?_
      rintro e wz ⟨vz, rfl, hTz, bz⟩
      have kz := hid (ky.out.trans (Kpt.of_below bz))
      have hz := hid (hy.out.below bz)
      have cl := opened_w w0.heap.size g q ov 125 125 rfl (by decide) 4 false noS 0 vz wz hz.out (hg _ kz.out).1 kz.out.size (tv_low hTz)
      have hRq : Hid (opL 125 (tupT []) q = R) := hid (by rw [← hRH.out]; unfold beginL; rw [s91H.out, s123H.out, if_neg (by simp), if_pos rfl, hqH.out])
      rw [show (Tm.mk 4 false [] noS 0 [] []) = tupT [] from rfl] at cl
      clear c2 bz hTz
      go_wp2_with fail
      refine cl.mono ?_
      rintro e w9 ⟨v9, rfl, h91', h92', h93'⟩
      have hl1 := hid h91'
      have hl2 := hid h92'
      have hl3 := hid (kz.out.trans h93')
      clear cl h91' h92' h93'
      go_wp2
      go_ret
      rw [← hRq.out]
      exact ⟨_, rfl, hl1.out, hl2.out, hl3.out⟩
    | false =>
      have c123 := skip_w g r ov 123 123 rfl (by decide) w1 h1.out (hg _ k1.out).1
      rw [s123, skR_no s123] at c123
      have s123H := hid s123
      clear s123
      go_wp2_with fail
      refine c123.mono ?_
      rintro e w2 ⟨rfl, h', k'⟩
      have h2 := hid h'
      have k2 := hid (k1.out.trans k')
      clear h' k' c123
      cases s60 : skB 60 r with
      | true =>
        have c60 := skip_w g r ov 60 60 rfl (by decide) w2 h2.out (hg _ k2.out).1
        rw [s60] at c60
        have s60H := hid s60
        clear s60
        obtain ⟨q, hq⟩ : ∃ q, skR 60 r = q := ⟨_, rfl⟩
        have hql : q.length ≤ r.length := by rw [← hq]; exact skR_le _ _
        rw [hq] at c60
        have hqH := hid hq
        clear hq
        go_wp2_with fail
        refine c60.mono ?_
        rintro e wy ⟨rfl, h', k'⟩
        have hy := hid h'
        have ky := hid (k2.out.trans k')
        clear h' k' c60
        have c60 := skip_w g q ov 60 60 rfl (by decide) wy hy.out (hg _ ky.out).1
        cases s60b : skB 60 q with
        | true =>
          obtain ⟨q2, hq2⟩ : ∃ q2, skR 60 q = q2 := ⟨_, rfl⟩
          have hql2 : q2.length ≤ q.length := by rw [← hq2]; exact skR_le _ _
          rw [s60b, hq2] at c60
          have hRq : Hid (lfL (binL q2) = R) := hid (by rw [← hRH.out]; unfold beginL; rw [s91H.out, s123H.out, s60H.out, if_neg (by simp), if_neg (by simp), if_pos rfl, hqH.out, s60b, if_pos rfl, hq2])
          clear s60b hq2
          go_wp2_with fail
          refine c60.mono ?_
          rintro e wz ⟨rfl, h', k'⟩
          have hz := hid h'
          have kz := hid (ky.out.trans k')
          have cl := bin_w g q2 ov wz (by omega) h' (fun w' kw => (hg _ (kz.out.trans kw)).1)
          clear h' k' c60
          go_wp2_with fail
          refine cl.mono ?_
          rintro e w9 ⟨v9, rfl, h91', h92', h93'⟩
          have hl1 := hid (h91'.mono kz.out.size)
          have hl2 := hid h92'
          have hl3 := hid (kz.out.trans h93')
          clear cl h91' h92' h93'
          go_wp2
          go_ret
          rw [← hRq.out]
          exact ⟨_, rfl, hl1.out, hl2.out, hl3.out⟩
        | false =>
          rw [s60b, skR_no s60b] at c60
          have hRq : Hid (lfL (pidL q) = R) := hid (by rw [← hRH.out]; unfold beginL; rw [s91H.out, s123H.out, s60H.out, if_neg (by simp), if_neg (by simp), if_pos rfl, hqH.out, s60b, if_neg (by simp)])
          clear s60b
          go_wp2_with fail
          refine c60.mono ?_
          rintro e wz ⟨rfl, h', k'⟩
          have hz := hid h'
          have kz := hid (ky.out.trans k')
          have cl := pid_w g q ov wz (by omega) h' (hg _ kz.out).1 (fun w' kw => (hg _ (kz.out.trans kw)).1)
          clear h' k' c60
          go_wp2_with fail
          refine cl.mono ?_
          rintro e w9 ⟨v9, rfl, h91', h92', h93'⟩
          have hl1 := hid (h91'.mono kz.out.size)
          have hl2 := hid h92'
          have hl3 := hid (kz.out.trans h93')
          clear cl h91' h92' h93'
          go_wp2
          go_ret
          rw [← hRq.out]
          exact ⟨_, rfl, hl1.out, hl2.out, hl3.out⟩
      | false =>
        have c60 := skip_w g r ov 60 60 rfl (by decide) w2 h2.out (hg _ k2.out).1
        rw [s60, skR_no s60] at c60
        have s60H := hid s60
        clear s60
        go_wp2_with fail
        refine c60.mono ?_
        rintro e w3 ⟨rfl, h', k'⟩
        have h3 := hid h'
        have k3 := hid (k2.out.trans k')
        clear h' k' c60
        cases s35 : skB 35 r with
        | true =>
          have c35 := skip_w g r ov 35 35 rfl (by decide) w3 h3.out (hg _ k3.out).1
          rw [s35] at c35
          have s35H := hid s35
          clear s35
          obtain ⟨q, hq⟩ : ∃ q, skR 35 r = q := ⟨_, rfl⟩
          have hql : q.length ≤ r.length := by rw [← hq]; exact skR_le _ _
          rw [hq] at c35
          have hqH := hid hq
          clear hq
          go_wp2_with fail
          refine c35.mono ?_
          rintro e wy ⟨rfl, h', k'⟩
          have hy := hid h'
          have ky := hid (k3.out.trans k')
          clear h' k' c35
          have hRq : Hid (lfL (refL q) = R) := hid (by rw [← hRH.out]; unfold beginL; rw [s91H.out, s123H.out, s60H.out, s35H.out, if_neg (by simp), if_neg (by simp), if_neg (by simp), if_pos rfl, hqH.out])
          have cl := ref_w g q ov wy (by omega) hy.out
          go_wp2_with fail
          refine cl.mono ?_
          rintro e w9 ⟨v9, rfl, h91', h92', h93'⟩
          have hl1 := hid (h91'.mono ky.out.size)
          have hl2 := hid h92'
          have hl3 := hid (ky.out.trans h93')
          clear cl h91' h92' h93'
          go_wp2
          go_ret
          rw [← hRq.out]
          exact ⟨_, rfl, hl1.out, hl2.out, hl3.out⟩
        | false =>
          have c35 := skip_w g r ov 35 35 rfl (by decide) w3 h3.out (hg _ k3.out).1
          rw [s35, skR_no s35] at c35
          have s35H := hid s35
          clear s35
          go_wp2_with fail
          refine c35.mono ?_
          rintro e w4 ⟨rfl, h', k'⟩
          have h4 := hid h'
          have k4 := hid (k3.out.trans k')
          clear h' k' c35
          cases s45 : skB 45 r with
          | true =>
            have c45 := skip_w g r ov 45 45 rfl (by decide) w4 h4.out (hg _ k4.out).1
            rw [s45] at c45
            have s45H := hid s45
            clear s45
            obtain ⟨q, hq⟩ : ∃ q, skR 45 r = q := ⟨_, rfl⟩
            have hql : q.length ≤ r.length := by rw [← hq]; exact skR_le _ _
            rw [hq] at c45
            have hqH := hid hq
            clear hq
            go_wp2_with fail
            refine c45.mono ?_
            rintro e wy ⟨rfl, h', k'⟩
            have hy := hid h'
            have ky := hid (k4.out.trans k')
            clear h' k' c45
            have hRq : Hid (lfL (intL [45] q) = R) := hid (by rw [← hRH.out]; unfold beginL; rw [s91H.out, s123H.out, s60H.out, s35H.out, s45H.out, if_neg (by simp), if_neg (by simp), if_neg (by simp), if_neg (by simp), if_pos rfl, hqH.out])
            have cl := rdint_w g [45] q ⟨#[45]⟩ rfl ov wy (by simp) (by omega) hy.out
            go_wp2_with fail
            refine cl.mono ?_
            rintro e w9 ⟨v9, rfl, h91', h92', h93'⟩
            have hl1 := hid (h91'.mono ky.out.size)
            have hl2 := hid h92'
            have hl3 := hid (ky.out.trans h93')
            clear cl h91' h92' h93'
            go_wp2
            go_ret
            rw [← hRq.out]
            exact ⟨_, rfl, hl1.out, hl2.out, hl3.out⟩
          | false =>
            have c45 := skip_w g r ov 45 45 rfl (by decide) w4 h4.out (hg _ k4.out).1
            rw [s45, skR_no s45] at c45
            have s45H := hid s45
            clear s45
            go_wp2_with fail
            refine c45.mono ?_
            rintro e w5 ⟨rfl, h', k'⟩
            have h5 := hid h'
            have k5 := hid (k4.out.trans k')
            clear h' k' c45
            have c2 := look_w g r ov w5 h5.out (hg _ k5.out).1
            go_wp2_with fail
            refine c2.mono ?_
            rintro e wl ⟨rfl, bl⟩
            have c3 := tdigit_w (Lib.decodeGo (bs r)).1 wl
            rw [look_dig2] at c3
            have kl := hid (k5.out.trans (Kpt.of_below bl))
            have hl := hid (h5.out.below bl)
            clear c2 bl
            obtain ⟨sd, hsd⟩ : ∃ sd, digH r = sd := ⟨_, rfl⟩
            rw [hsd] at c3
            go_wp2_with fail
            refine c3.mono ?_
            rintro e w9 ⟨rfl, rfl⟩
            clear c3
            cases sd with
            | true =>
              have hRq : Hid (lfL (intL [] r) = R) := hid (by rw [← hRH.out]; unfold beginL; rw [s91H.out, s123H.out, s60H.out, s35H.out, s45H.out, hsd, if_neg (by simp), if_neg (by simp), if_neg (by simp), if_neg (by simp), if_neg (by simp), if_pos rfl])
              clear hsd
              have cl := rdint_w g [] r ⟨#[]⟩ rfl ov w9 (by simp) (by omega) hl.out
              go_wp2_with fail
              refine cl.mono ?_
              rintro e w8 ⟨v9, rfl, h91', h92', h93'⟩
              have hl1 := hid (h91'.mono kl.out.size)
              have hl2 := hid h92'
              have hl3 := hid (kl.out.trans h93')
              clear cl h91' h92' h93'
              go_wp2
              go_ret
              rw [← hRq.out]
              exact ⟨_, rfl, hl1.out, hl2.out, hl3.out⟩
            | false =>
              have hRq : Hid (lfL (nameL r) = R) := hid (by rw [← hRH.out]; unfold beginL; rw [s91H.out, s123H.out, s60H.out, s35H.out, s45H.out, hsd, if_neg (by simp), if_neg (by simp), if_neg (by simp), if_neg (by simp), if_neg (by simp), if_neg (by simp)])
              clear hsd
              have cl := name_w g r ov w9 (by omega) hl.out h00H.out (hg _ kl.out)
              go_wp2_with fail
              refine cl.mono ?_
              rintro e w8 ⟨v9, rfl, h91', h92', h93'⟩
              have hl1 := hid (h91'.mono kl.out.size)
              have hl2 := hid h92'
              have hl3 := hid (kl.out.trans h93')
              clear cl h91' h92' h93'
              go_wp2
              go_ret
              rw [← hRq.out]
              exact ⟨_, rfl, hl1.out, hl2.out, hl3.out⟩
end Go.Proofs.YtjacoodfhkaioaaGreatDoor
namespace Go.Proofs.YtjacoodfhkaioaaGreatDoor
open Go.ChangeShapes Go.WideShapes Go.ChangeAt Go.RowKit Go.Shelf
set_option linter.unusedSimpArgs false
set_option linter.unusedVariables false
set_option maxRecDepth 2000
def lexZ_o : List Nat → List Nat → Int
  | [], [] => 0
  | [], _ :: _ => -1
  | _ :: _, [] => 1
  | x :: xs, y :: ys => if x = y then lexZ_o xs ys else cmpZ (x : Int) (y : Int)
def lessZ_o (a b : List UInt8) : Int := if Lib.validD a && Lib.validD b then lexZ_o (sg a) (sg b) else Lib.compareBytes a b

theorem order_q_o (x y : Int) (w : World) :
    Calls Tryz.prog 56 #[.int .i64 x, .int .i64 y] w fun e w' => e = .returned (.int .i64 (cmpZ x y)) ∧ w' = w := order_w x y w
/-- A row of bytes in memory. -/
def RowB_o (g : Nat) (l : List UInt8) (w : World) : Prop := ∀ j x, l[j]? = some x → w.cell? ⟨g, j, none⟩ = some (.int .u8 (x.toNat : Int))
/-- A row of signs in memory. -/
def RowR_o (g : Nat) (l : List Nat) (w : World) : Prop := ∀ (j r : Nat), l[j]? = some r → w.cell? ⟨g, j, none⟩ = some (.int .i32 (r : Int))
theorem RowB_o.below {g : Nat} {l : List UInt8} {w w' : World} (h : RowB_o g l w) (hb : Below w.heap.size w w') : RowB_o g l w' := fun j x hx =>
  (hb.cell (World.block_lt_of_cell? _ _ (h j x hx))).trans (h j x hx)
theorem RowR_o.below {g : Nat} {l : List Nat} {w w' : World} (h : RowR_o g l w) (hb : Below w.heap.size w w') : RowR_o g l w' := fun j x hx =>
  (hb.cell (World.block_lt_of_cell? _ _ (h j x hx))).trans (h j x hx)

theorem cmp_step_o (x y : UInt8) (s t : List UInt8) (h : x ≠ y) : Lib.compareBytes (x :: s) (y :: t) = cmpZ (x.toNat : Int) (y.toNat : Int) := by
  unfold Lib.compareBytes cmpZ
  simp only [UInt8.lt_iff_toNat_lt]
  have : x.toNat ≠ y.toNat := fun e => h (UInt8.toNat_inj.1 e)
  by_cases h1 : x.toNat < y.toNat
  · rw [if_pos h1, if_pos (by omega)]
  · rw [if_neg h1, if_pos (by omega), if_neg (by omega), if_pos (by omega)]
theorem cmp_same_o (x : UInt8) (s t : List UInt8) : Lib.compareBytes (x :: s) (x :: t) = Lib.compareBytes s t := by
  rw [Lib.compareBytes]; simp [UInt8.lt_iff_toNat_lt]

set_option maxHeartbeats 2000000 in
theorem bytewise_w_o (ga gb ca cb : Nat) (a b : List UInt8) (w : World) (ha : a.length ≤ 1000000) (hb : b.length ≤ 1000000) (hra : RowB_o ga a w) (hrb : RowB_o gb b w) :
    Calls Tryz.prog 59 #[.slice (some ⟨ga, 0, none⟩) a.length ca, .slice (some ⟨gb, 0, none⟩) b.length cb] w fun e w' => e = .returned (.int .i64 (Lib.compareBytes a b)) ∧ Below w.heap.size w w' := by
  obtain ⟨R, hR⟩ : ∃ R, Lib.compareBytes a b = R := ⟨_, rfl⟩
  rw [hR]
  go_enter Tryz.func59, Tryz.ntmps59
  go_wp2
  go_loopw [5] (fun i wr => ∃ k : Nat, i = .int .i64 (k : Int) ∧ k ≤ a.length ∧ k ≤ b.length ∧ Below w.heap.size w wr ∧ Hid (Lib.compareBytes (a.drop k) (b.drop k) = R)) (fun i _ => a.length - (intOf i).toNat)
  case atStart => exact ⟨0, rfl, by omega, by omega, Below.refl _ _, hid (by simpa using hR)⟩
  case round =>
    obtain ⟨k, rfl, hka, hkb, hbw, hH⟩ := hrel
    clear hR
    have ra := hra.below hbw
    have rb := hrb.below hbw
    by_cases h1 : k < a.length
    · have h1z : (k : Int) < (a.length : Int) := by omega
      by_cases h2 : k < b.length
      · have h2z : (k : Int) < (b.length : Int) := by omega
        obtain ⟨x, hx⟩ : ∃ x, a[k]? = some x := ⟨a[k], by simp [h1]⟩
        obtain ⟨y, hy⟩ : ∃ y, b[k]? = some y := ⟨b[k], by simp [h2]⟩
        have cx := ra k x hx
        have cy := rb k y hy
        have da : Hid (a.drop k = x :: a.drop (k + 1)) := hid (by rw [List.drop_eq_getElem_cons h1]; congr 1; simpa [h1] using hx)
        have db : Hid (b.drop k = y :: b.drop (k + 1)) := hid (by rw [List.drop_eq_getElem_cons h2]; congr 1; simpa [h2] using hy)
        clear ra rb
        by_cases hxy : x = y
        · subst hxy
          go_wp2
          go_quiet (fail)
          go_wp2
          go_roundw
          case rel =>
            refine ⟨k + 1, by go_num, by omega, by omega, below_drewNv hbw _, hid ?_⟩
            rw [← hH.out, da.out, db.out, cmp_same_o]
          case measure => simp [intOf]; omega
        · have hxz : ((x.toNat : Int) == (y.toNat : Int)) = false := by
            simp only [beq_eq_false_iff_ne, ne_eq]
            intro e; exact hxy (UInt8.toNat_inj.1 (by omega))
          have hwx : IntKind.i64.wrap (x.toNat : Int) = (x.toNat : Int) := by have := x.toNat_lt; rw [IntKind.wrap_i64]; omega
          have hwy : IntKind.i64.wrap (y.toNat : Int) = (y.toNat : Int) := by have := y.toNat_lt; rw [IntKind.wrap_i64]; omega
          have hres : R = cmpZ (x.toNat : Int) (y.toNat : Int) := by rw [← hH.out, da.out, db.out, cmp_step_o x y _ _ hxy]
          go_wp2
          go_quiet (fail)
          have hbw' := below_drewNv hbw nq
          have cx' := hra.below hbw' k x hx
          have cy' := hrb.below hbw' k y hy
          clear cx cy hbw
          generalize wr.drewN nq = wq at *
          go_wp2
          go_quiet ((go_at_call 56; exact Calls.quiet_of_same (order_q_o _ _ _)))
          go_wp2
          go_ret
          exact ⟨by rw [hres]; rfl, below_drewNv hbw' _⟩
      · have h2z : ¬ (k : Int) < (b.length : Int) := by omega
        have hres : R = cmpZ (a.length : Int) (b.length : Int) := by
          rw [← hH.out, List.drop_eq_getElem_cons h1, show b.drop k = [] from List.drop_eq_nil_of_le (by omega)]
          unfold cmpZ; rw [if_neg (by omega), if_pos (by omega)]; rfl
        go_wp2_with fail
        refine (order_q_o _ _ _).mono ?_
        rintro e w1 ⟨rfl, rfl⟩
        go_wp2
        go_ret
        exact ⟨by rw [hres]; rfl, hbw⟩
    · have h1z : ¬ (k : Int) < (a.length : Int) := by omega
      have hres : R = cmpZ (a.length : Int) (b.length : Int) := by
        rw [← hH.out, List.drop_eq_nil_of_le (by omega)]
        unfold cmpZ
        by_cases h2 : k < b.length
        · rw [List.drop_eq_getElem_cons h2, if_pos (by omega)]; rfl
        · rw [List.drop_eq_nil_of_le (by omega), if_neg (by omega), if_neg (by omega)]; rfl
      go_wp2_with fail
      refine (order_q_o _ _ _).mono ?_
      rintro e w1 ⟨rfl, rfl⟩
      go_wp2
      go_ret
      exact ⟨by rw [hres]; rfl, hbw⟩

/-! ### texts turned into rows -/
theorem runesFrom_eq_o (s : ByteArray) : ∀ (bound i : Nat) (acc : Array Value), s.size ≤ i + bound → Conv.runesFrom s bound i acc = acc ++ ((sg (s.data.toList.drop i)).map fun (r : Nat) => Value.int .i32 (r : Int)).toArray
  | 0, i, acc, h => by
    rw [Conv.runesFrom, sg_end s i (by omega)]; simp
  | b + 1, i, acc, h => by
    rw [Conv.runesFrom]
    by_cases hp : i < s.size
    · have hw := Lib.width_pos s i
      rw [if_pos hp, sg_at s i hp]
      obtain ⟨⟨r, k⟩, hd⟩ : ∃ d, Utf8.decode s i = d := ⟨_, rfl⟩
      rw [hd] at hw ⊢
      have ih := runesFrom_eq_o s b (i + k) (acc.push (.int .i32 (r : Int))) (by simp only [] at hw; omega)
      simp only [List.map_cons]
      show Conv.runesFrom s b (i + k) (acc.push (.int .i32 (r : Int))) = _
      rw [ih]
      simp
    · rw [if_neg hp, sg_end s i hp]; simp
theorem runes_conv_o (s : ByteArray) (w : World) (hs : s.size ≤ 1000000) :
    ∃ cap W, (convert 9 124 (.string s)).run Tryz.prog w = .ok (.slice (some ⟨w.heap.size, 0, none⟩) (sg s.data.toList).length cap) W ∧ Below w.heap.size w W ∧ RowR_o w.heap.size (sg s.data.toList) W ∧ W.heap.size = w.heap.size + 1 := by
  have e : Conv.runesFrom s s.size 0 #[] = ((sg s.data.toList).map fun (r : Nat) => Value.int .i32 (r : Int)).toArray := by
    rw [runesFrom_eq_o s s.size 0 #[] (by omega)]; simp
  have hle := sg_le s.data.toList
  have hsz : s.data.toList.length = s.size := rfl
  have hr := run_runes_of_string (P := Tryz.prog) w 9 124 21 s Tryz.underlying9 Tryz.underlying124 Tryz.underlying21 (by rw [e]; simp; omega)
  rw [e] at hr
  simp only [List.size_toArray, List.length_map] at hr
  refine ⟨_, _, hr, ((Below.refl _ w).drew).alloc (Nat.le_refl _) _, ?_, by simp⟩
  intro j r hj
  rw [show ∀ o : Obj, (w.drew.alloc o).cell? ⟨w.heap.size, j, none⟩ = (w.drew.alloc o).cell? ⟨w.drew.heap.size, j, none⟩ from fun _ => rfl, Lib.cell_of_heap (Go.heap_alloc_new w.drew _)]
  have hjl : j < (sg s.data.toList).length := (List.getElem?_eq_some_iff.1 hj).1
  rw [Array.getElem?_append_left (by simpa using hjl)]
  simp [hj]
theorem bytes_conv_o (s : ByteArray) (w : World) :
    ∃ cap W, (convert 9 25 (.string s)).run Tryz.prog w = .ok (.slice (some ⟨w.heap.size, 0, none⟩) s.data.toList.length cap) W ∧ Below w.heap.size w W ∧ RowB_o w.heap.size s.data.toList W ∧ W.heap.size = w.heap.size + 1 := by
  have hr := run_bytes_of_string (P := Tryz.prog) w 9 25 5 s Tryz.underlying9 Tryz.underlying25 Tryz.underlying5
  refine ⟨_, _, hr, ((Below.refl _ w).drew).alloc (Nat.le_refl _) _, ?_, by simp⟩
  intro j x hx
  rw [show ∀ o : Obj, (w.drew.alloc o).cell? ⟨w.heap.size, j, none⟩ = (w.drew.alloc o).cell? ⟨w.drew.heap.size, j, none⟩ from fun _ => rfl, Lib.cell_of_heap (Go.heap_alloc_new w.drew _)]
  obtain ⟨hjl, hjx⟩ := List.getElem?_eq_some_iff.1 hx
  rw [bytesRow_at s _ j (by simpa using hjl)]
  subst hjx
  simp

set_option maxHeartbeats 4000000 in
set_option maxRecDepth 8000 in
theorem rless_w_o (a b : ByteArray) (w : World) (ha : a.size ≤ 1000000) (hb : b.size ≤ 1000000) (hT : Tabs w) :
    Calls Tryz.prog 58 #[.string a, .string b] w fun e w' => e = .returned (.int .i64 (lessZ_o a.data.toList b.data.toList)) ∧ Below w.heap.size w w' := by
  obtain ⟨R, hR⟩ : ∃ R, lessZ_o a.data.toList b.data.toList = R := ⟨_, rfl⟩
  rw [hR]
  unfold lessZ_o at hR
  have la := sg_le a.data.toList
  have lb := sg_le b.data.toList
  have za : a.data.toList.length = a.size := rfl
  have zb : b.data.toList.length = b.size := rfl
  cases va : Lib.validD a.data.toList with
  | false =>
    rw [va, Bool.false_and, if_neg (by simp)] at hR
    go_enter Tryz.func58, Tryz.ntmps58
    go_wp2_with fail
    refine (rvalid_w _ _ (by omega) hT).mono ?_
    rintro e w1 ⟨rfl, b1⟩
    obtain ⟨ca, W1, k1, B1, r1, z1⟩ := bytes_conv_o a w1
    obtain ⟨cb, W2, k2, B2, r2, z2⟩ := bytes_conv_o b W1
    have B1' : Below w.heap.size w W1 := b1.trans (below_le B1 b1.size)
    have B2' : Below w.heap.size w W2 := B1'.trans (below_le B2 B1'.size)
    have r1' := r1.below (below_le B2 (Nat.le_refl _))
    have s1 := b1.size
    have r2z : RowB_o (w1.heap.size + 1) b.data.toList W2 := by rw [← z1]; exact r2
    go_wp2_with fail
    refine (bytewise_w_o w1.heap.size (w1.heap.size + 1) ca cb a.data.toList b.data.toList W2 (by omega) (by omega) r1' r2z).mono ?_
    rintro e w3 ⟨rfl, b3⟩
    go_wp2
    go_ret
    exact ⟨by rw [← hR]; rfl, B2'.trans (below_le b3 B2'.size)⟩
  | true =>
    cases vb : Lib.validD b.data.toList with
    | false =>
      rw [va, vb, Bool.and_false, if_neg (by simp)] at hR
      go_enter Tryz.func58, Tryz.ntmps58
      go_wp2_with fail
      refine (rvalid_w _ _ (by omega) hT).mono ?_
      rintro e w0 ⟨rfl, b0⟩
      go_wp2_with fail
      refine (rvalid_w _ _ (by omega) (hT.below b0)).mono ?_
      rintro e w1 ⟨rfl, b1'⟩
      have b1 : Below w.heap.size w w1 := b0.trans (below_le b1' b0.size)
      obtain ⟨ca, W1, k1, B1, r1, z1⟩ := bytes_conv_o a w1
      obtain ⟨cb, W2, k2, B2, r2, z2⟩ := bytes_conv_o b W1
      have B1' : Below w.heap.size w W1 := b1.trans (below_le B1 b1.size)
      have B2' : Below w.heap.size w W2 := B1'.trans (below_le B2 B1'.size)
      have r1' := r1.below (below_le B2 (Nat.le_refl _))
      have s1 := b1.size
      have r2z : RowB_o (w1.heap.size + 1) b.data.toList W2 := by rw [← z1]; exact r2
      go_wp2_with fail
      refine (bytewise_w_o w1.heap.size (w1.heap.size + 1) ca cb a.data.toList b.data.toList W2 (by omega) (by omega) r1' r2z).mono ?_
      rintro e w3 ⟨rfl, b3⟩
      go_wp2
      go_ret
      exact ⟨by rw [← hR]; rfl, B2'.trans (below_le b3 B2'.size)⟩
    | true =>
      rw [va, vb, Bool.and_true, if_pos rfl] at hR
      have hpa : ∀ r ∈ sg a.data.toList, r ≤ 1114111 := fun r hr => by have := okRs_sg a.data.toList r hr; unfold okR at this; omega
      have hpb : ∀ r ∈ sg b.data.toList, r ≤ 1114111 := fun r hr => by have := okRs_sg b.data.toList r hr; unfold okR at this; omega
      go_enter Tryz.func58, Tryz.ntmps58
      go_wp2_with fail
      refine (rvalid_w _ _ (by omega) hT).mono ?_
      rintro e w0 ⟨rfl, b0⟩
      go_wp2_with fail
      refine (rvalid_w _ _ (by omega) (hT.below b0)).mono ?_
      rintro e w1 ⟨rfl, b1'⟩
      have b1 : Below w.heap.size w w1 := b0.trans (below_le b1' b0.size)
      obtain ⟨ca, W1, k1, B1, r1, z1⟩ := runes_conv_o a w1 ha
      obtain ⟨cb, W2, k2, B2, r2, z2⟩ := runes_conv_o b W1 hb
      have B1' : Below w.heap.size w W1 := b1.trans (below_le B1 b1.size)
      have B2' : Below w.heap.size w W2 := B1'.trans (below_le B2 B1'.size)
      have r1' := r1.below (below_le B2 (Nat.le_refl _))
      have s1 := b1.size
      have r2z : RowR_o (w1.heap.size + 1) (sg b.data.toList) W2 := by rw [← z1]; exact r2
      clear r1 r2 B1 B2 b1' b0
      generalize sg a.data.toList = X at *
      generalize sg b.data.toList = Y at *
      go_wp2
      go_loopw [7] (fun i wr => ∃ k : Nat, i = .int .i64 (k : Int) ∧ k ≤ X.length ∧ k ≤ Y.length ∧ Below W2.heap.size W2 wr ∧ Hid (lexZ_o (X.drop k) (Y.drop k) = R)) (fun i _ => X.length - (intOf i).toNat)
      case atStart => exact ⟨0, rfl, by omega, by omega, Below.refl _ _, hid (by simpa using hR)⟩
      case round =>
        obtain ⟨k, rfl, hka, hkb, hbw, hH⟩ := hrel
        clear hR va vb
        have ra := r1'.below hbw
        have rb := r2z.below hbw
        by_cases h1 : k < X.length
        · have h1z : (k : Int) < (X.length : Int) := by omega
          by_cases h2 : k < Y.length
          · have h2z : (k : Int) < (Y.length : Int) := by omega
            obtain ⟨x, hx⟩ : ∃ x, X[k]? = some x := ⟨X[k], by simp [h1]⟩
            obtain ⟨y, hy⟩ : ∃ y, Y[k]? = some y := ⟨Y[k], by simp [h2]⟩
            have cx := ra k x hx
            have cy := rb k y hy
            have mx := hpa x (List.mem_of_getElem? hx)
            have my := hpb y (List.mem_of_getElem? hy)
            have da : Hid (X.drop k = x :: X.drop (k + 1)) := hid (by rw [List.drop_eq_getElem_cons h1]; congr 1; simpa [h1] using hx)
            have db : Hid (Y.drop k = y :: Y.drop (k + 1)) := hid (by rw [List.drop_eq_getElem_cons h2]; congr 1; simpa [h2] using hy)
            clear ra rb
            by_cases hxy : x = y
            · subst hxy
              go_wp2
              go_quiet (fail)
              go_wp2
              go_roundw
              case rel =>
                refine ⟨k + 1, by go_num, by omega, by omega, below_drewNv hbw _, hid ?_⟩
                rw [← hH.out, da.out, db.out, lexZ_o, if_pos rfl]
              case measure => simp [intOf]; omega
            · have hxz : ((x : Int) == (y : Int)) = false := by
                simp only [beq_eq_false_iff_ne, ne_eq]; omega
              have hwx : IntKind.i64.wrap (x : Int) = (x : Int) := by rw [IntKind.wrap_i64]; omega
              have hwy : IntKind.i64.wrap (y : Int) = (y : Int) := by rw [IntKind.wrap_i64]; omega
              have hres : R = cmpZ (x : Int) (y : Int) := by rw [← hH.out, da.out, db.out, lexZ_o, if_neg hxy]
              go_wp2
              go_quiet (fail)
              have hbw' := below_drewNv hbw nq
              have cx' := r1'.below hbw' k x hx
              have cy' := r2z.below hbw' k y hy
              clear cx cy hbw
              generalize wr.drewN nq = wq at *
              go_wp2
              go_quiet ((go_at_call 56; exact Calls.quiet_of_same (order_q_o _ _ _)))
              go_wp2
              go_ret
              exact ⟨by rw [hres]; rfl, B2'.trans (below_le (below_drewNv hbw' _) B2'.size)⟩
          · have h2z : ¬ (k : Int) < (Y.length : Int) := by omega
            have hres : R = cmpZ (X.length : Int) (Y.length : Int) := by
              rw [← hH.out, List.drop_eq_getElem_cons h1, show Y.drop k = [] from List.drop_eq_nil_of_le (by omega)]
              unfold cmpZ; rw [if_neg (by omega), if_pos (by omega)]; rfl
            go_wp2_with fail
            refine (order_q_o _ _ _).mono ?_
            rintro e w1 ⟨rfl, rfl⟩
            go_wp2
            go_ret
            exact ⟨by rw [hres]; rfl, B2'.trans (below_le hbw B2'.size)⟩
        · have h1z : ¬ (k : Int) < (X.length : Int) := by omega
          have hres : R = cmpZ (X.length : Int) (Y.length : Int) := by
            rw [← hH.out, show X.drop k = [] from List.drop_eq_nil_of_le (by omega)]
            unfold cmpZ
            by_cases h2 : k < Y.length
            · rw [List.drop_eq_getElem_cons h2, if_pos (by omega)]; rfl
            · rw [List.drop_eq_nil_of_le (by omega), if_neg (by omega), if_neg (by omega)]; rfl
          go_wp2_with fail
          refine (order_q_o _ _ _).mono ?_
          rintro e w1 ⟨rfl, rfl⟩
          go_wp2
          go_ret
          exact ⟨by rw [hres]; rfl, B2'.trans (below_le hbw B2'.size)⟩
end Go.Proofs.YtjacoodfhkaioaaGreatDoor
namespace Go.Proofs.YtjacoodfhkaioaaGreatDoor
set_option linter.unusedSimpArgs false
/-- the first that is not nought -/
def lx (x y : Int) : Int := if x ≠ 0 then x else y
theorem lx_zero (y : Int) : lx 0 y = y := by simp [lx]
theorem lx_ne {x : Int} (h : x ≠ 0) (y : Int) : lx x y = x := by simp [lx, h]
theorem cz_le (x y : Int) : cmpZ x y ≤ 0 ↔ x ≤ y := by
  unfold cmpZ
  by_cases h1 : x < y
  · simp [h1]; omega
  · by_cases h2 : y < x
    · simp [h1, h2]
    · simp [h1, h2]; omega
theorem cz_ge (x y : Int) : 0 ≤ cmpZ x y ↔ y ≤ x := by
  unfold cmpZ
  by_cases h1 : x < y
  · simp [h1]
  · by_cases h2 : y < x
    · simp [h1, h2]; omega
    · simp [h1, h2]; omega
theorem cz_zero (x y : Int) : cmpZ x y = 0 ↔ x = y := by
  have h1 := cz_le x y
  have h2 := cz_ge x y
  omega
theorem cz_self (x : Int) : cmpZ x x = 0 := (cz_zero x x).2 rfl
theorem lexZ_cons (x y : Nat) (xs ys : List Nat) : lexZ_o (x :: xs) (y :: ys) = lx (cmpZ (x : Int) (y : Int)) (lexZ_o xs ys) := by
  show (if x = y then lexZ_o xs ys else cmpZ (x : Int) (y : Int)) = _
  by_cases h : x = y
  · subst h; rw [if_pos rfl, cz_self, lx_zero]
  · rw [if_neg h, lx_ne]
    rw [Ne, cz_zero]; omega
theorem lexZ_self : ∀ a : List Nat, lexZ_o a a = 0
  | [] => rfl
  | x :: xs => by rw [lexZ_cons, cz_self, lx_zero, lexZ_self xs]
mutual
/-- one term against another -/
def cT : Tm → Tm → Int
  | .mk k neg d nm n l b, .mk k' neg' d' nm' n' l' b' => lx (cmpZ k k') (
    if k = 0 then cmpZ (sv neg (gval 4294967296 d)) (sv neg' (gval 4294967296 d'))
    else if k = 1 then lessZ_o nm.data.toList nm'.data.toList
    else if k = 2 ∨ k = 3 then cmpZ n n'
    else if k = 7 then lexZ_o b b'
    else if k = 4 ∨ k = 6 then lx (cmpZ (l.length : Int) (l'.length : Int)) (cR l l')
    else 0)
def cR : List Tm → List Tm → Int
  | [], _ => 0
  | _ :: _, [] => 0
  | t :: l, t' :: l' => lx (cT t t') (cR l l')
end
theorem cR_cons (t t' : Tm) (l l' : List Tm) : cR (t :: l) (t' :: l') = lx (cT t t') (cR l l') := by rw [cR]
theorem cR_nil (l : List Tm) : cR [] l = 0 := by rw [cR]
/-- a part that has its order -/
def okO : Tm → Prop | .mk k neg d nm n l b => 0 ≤ k ∧ k ≤ 7 ∧ (k = 6 → l.length = 2) ∧ (k = 1 → Lib.validD nm.data.toList = true) ∧ (Tm.mk k neg d nm n l b).ok1
def wfT (T : Tm) : Prop := ∀ t ∈ parts T, okO t
def wfL (l : List Tm) : Prop := ∀ t ∈ partsL l, okO t
theorem wfT.self {T : Tm} (h : wfT T) : okO T := h T (by rw [parts_eq]; simp)
theorem wfT.kids {T : Tm} (h : wfT T) : wfL T.kids := fun t ht => h t (by rw [parts_eq]; simp [ht])
theorem wfL.head {t : Tm} {l : List Tm} (h : wfL (t :: l)) : wfT t := fun s hs => h s (by simp [partsL, hs])
theorem wfL.tail {t : Tm} {l : List Tm} (h : wfL (t :: l)) : wfL l := fun s hs => h s (by simp [partsL, hs])
theorem wfL.cons {t : Tm} {l : List Tm} (h : wfT t) (hl : wfL l) : wfL (t :: l) := fun s hs => by
  simp only [partsL, List.mem_append] at hs
  exact hs.elim (h s) (hl s)
theorem wfL.nil : wfL [] := fun s hs => by simp [partsL] at hs
theorem wfT.l {k : Int} {neg : Bool} {d : List Nat} {nm : ByteArray} {n : Int} {l : List Tm} {b : List Nat} (h : wfT (.mk k neg d nm n l b)) (hk : k = 4 ∨ k = 6) : wfL l := by
  have := h.kids
  simpa [Tm.kids, hk] using this
/-- what waits: rows of either -/
def cS : List (List Tm × List Tm) → Int
  | [] => 0
  | p :: st => lx (cR p.1 p.2) (cS st)
end Go.Proofs.YtjacoodfhkaioaaGreatDoor
namespace Go.Proofs.YtjacoodfhkaioaaGreatDoor
open Go.ChangeShapes Go.WideShapes Go.ChangeAt Go.ChangeMaps Go.RowKit Go.Shelf
set_option linter.unusedSimpArgs false
set_option linter.unusedVariables false
set_option maxRecDepth 2000
section
variable {neg neg' : Bool} {d d' : List Nat} {nm nm' : ByteArray} {n n' : Int} {l l' : List Tm} {b b' : List Nat}
theorem cT_0 : cT (.mk 0 neg d nm n l b) (.mk 0 neg' d' nm' n' l' b') = cmpZ (sv neg (gval 4294967296 d)) (sv neg' (gval 4294967296 d')) := by rw [cT, cz_self, lx_zero, if_pos rfl]
theorem cT_1 : cT (.mk 1 neg d nm n l b) (.mk 1 neg' d' nm' n' l' b') = lessZ_o nm.data.toList nm'.data.toList := by rw [cT, cz_self, lx_zero, if_neg (by decide), if_pos rfl]
theorem cT_2 : cT (.mk 2 neg d nm n l b) (.mk 2 neg' d' nm' n' l' b') = cmpZ n n' := by rw [cT, cz_self, lx_zero, if_neg (by decide), if_neg (by decide), if_pos (by decide)]
theorem cT_3 : cT (.mk 3 neg d nm n l b) (.mk 3 neg' d' nm' n' l' b') = cmpZ n n' := by rw [cT, cz_self, lx_zero, if_neg (by decide), if_neg (by decide), if_pos (by decide)]
theorem cT_7 : cT (.mk 7 neg d nm n l b) (.mk 7 neg' d' nm' n' l' b') = lexZ_o b b' := by rw [cT, cz_self, lx_zero, if_neg (by decide), if_neg (by decide), if_neg (by decide), if_pos rfl]
theorem cT_4 : cT (.mk 4 neg d nm n l b) (.mk 4 neg' d' nm' n' l' b') = lx (cmpZ (l.length : Int) (l'.length : Int)) (cR l l') := by rw [cT, cz_self, lx_zero, if_neg (by decide), if_neg (by decide), if_neg (by decide), if_neg (by decide), if_pos (by decide)]
theorem cT_6 : cT (.mk 6 neg d nm n l b) (.mk 6 neg' d' nm' n' l' b') = lx (cmpZ (l.length : Int) (l'.length : Int)) (cR l l') := by rw [cT, cz_self, lx_zero, if_neg (by decide), if_neg (by decide), if_neg (by decide), if_neg (by decide), if_pos (by decide)]
theorem cT_kind {k k' : Int} (h : k ≠ k') : cT (.mk k neg d nm n l b) (.mk k' neg' d' nm' n' l' b') = cmpZ k k' := by rw [cT, lx_ne (by rw [Ne, cz_zero]; exact h)]
end
theorem heap_setc {w : World} {b j : Nat} {cs : Array Value} {T : TypeId} (h : w.heap[b]? = some (.cells cs T (0, 0))) (q : Value) :
    (w.setCell ⟨b, j, none⟩ q).heap[b]? = some (.cells (cs.setIfInBounds j q) T (0, 0)) := by
  simp [World.setCell, Array.getElem?_modify, h]
def ShutO (p : Prop) : Prop := p
theorem shutO {p : Prop} (h : p) : ShutO p := h
theorem ShutO.out {p : Prop} (h : ShutO p) : p := h
set_option maxHeartbeats 1000000 in
theorem rNil_w (w : World) : Calls Tryz.prog 31 #[] w fun e w' => e = .returned (tmV 5 false nilS noS 0 nilS nilS) ∧ Below w.heap.size w w' := by
  go_enter Tryz.func31, Tryz.ntmps31
  go_wp2
  exact bodyPost_ret (v := tmV 5 false nilS noS 0 nilS nilS) (by simp [results, Tryz.results31, go_sem]) rfl ⟨rfl, (Below.refl _ w).alloc (Nat.le_refl _) _⟩
end Go.Proofs.YtjacoodfhkaioaaGreatDoor
namespace Go.Proofs.YtjacoodfhkaioaaGreatDoor
open Go.ChangeShapes Go.WideShapes Go.ChangeAt Go.ChangeMaps Go.RowKit Go.Shelf
set_option linter.unusedSimpArgs false
set_option linter.unusedVariables false
set_option maxRecDepth 2000
set_option maxHeartbeats 2000000 in
set_option maxRecDepth 4000 in
theorem rbytes_w (oa ob : Option Addr) (ca cb : Nat) (a b : List Nat) (w : World) (ha : a.length ≤ 1000000) (hb : b.length ≤ 1000000) (hra : LsB (Low w) oa a w) (hrb : LsB (Low w) ob b w) :
    Calls Tryz.prog 59 #[.slice oa a.length ca, .slice ob b.length cb] w fun e w' => e = .returned (.int .i64 (lexZ_o a b)) ∧ Below w.heap.size w w' := by
  obtain ⟨R, hR⟩ : ∃ R, lexZ_o a b = R := ⟨_, rfl⟩
  rw [hR]
  go_enter Tryz.func59, Tryz.ntmps59
  go_wp2
  go_loopw [5] (fun i wr => ∃ k : Nat, i = .int .i64 (k : Int) ∧ k ≤ a.length ∧ k ≤ b.length ∧ Below w.heap.size w wr ∧ Hid (lexZ_o (a.drop k) (b.drop k) = R)) (fun i _ => a.length - (intOf i).toNat)
  case atStart => exact ⟨0, rfl, by omega, by omega, Below.refl _ _, hid (by simpa using hR)⟩
  case round =>
    obtain ⟨k, rfl, hka, hkb, hbw, hH⟩ := hrel
    clear hR
    have ra := hra.zs (fun k hk => hbw.block k hk)
    have rb := hrb.zs (fun k hk => hbw.block k hk)
    by_cases h1 : k < a.length
    · have h1z : (k : Int) < (a.length : Int) := by omega
      by_cases h2 : k < b.length
      · have h2z : (k : Int) < (b.length : Int) := by omega
        obtain ⟨x, hx⟩ : ∃ x, a[k]? = some x := ⟨a[k], by simp [h1]⟩
        obtain ⟨y, hy⟩ : ∃ y, b[k]? = some y := ⟨b[k], by simp [h2]⟩
        obtain ⟨da', hda, _, cx⟩ := ra.1 k (.int .u8 (x : Int)) (by simp [hx])
        obtain ⟨db', hdb, _, cy⟩ := rb.1 k (.int .u8 (y : Int)) (by simp [hy])
        subst hda
        subst hdb
        have hx2 : x < 256 := hra.2 x (List.mem_of_getElem? hx)
        have hy2 : y < 256 := hrb.2 y (List.mem_of_getElem? hy)
        have da : Hid (a.drop k = x :: a.drop (k + 1)) := hid (by rw [List.drop_eq_getElem_cons h1]; congr 1; simpa [h1] using hx)
        have db : Hid (b.drop k = y :: b.drop (k + 1)) := hid (by rw [List.drop_eq_getElem_cons h2]; congr 1; simpa [h2] using hy)
        clear ra rb
        have Hx := hid hx
        have Hy := hid hy
        clear hx hy
        by_cases hxy : x = y
        · subst hxy
          go_wp2
          go_quiet (fail)
          go_wp2
          go_roundw
          case rel =>
            refine ⟨k + 1, by go_num, by omega, by omega, below_drewNv hbw _, hid ?_⟩
            rw [← hH.out, da.out, db.out, lexZ_o, if_pos rfl]
          case measure => simp [intOf]; omega
        · have hxz : ((x : Int) == (y : Int)) = false := by
            simp only [beq_eq_false_iff_ne, ne_eq]
            omega
          have hwx : IntKind.i64.wrap (x : Int) = (x : Int) := by rw [IntKind.wrap_i64]; omega
          have hwy : IntKind.i64.wrap (y : Int) = (y : Int) := by rw [IntKind.wrap_i64]; omega
          have hres : R = cmpZ (x : Int) (y : Int) := by rw [← hH.out, da.out, db.out, lexZ_o, if_neg hxy]
          go_wp2
          go_quiet (fail)
          have hbw' := below_drewNv hbw nq
          obtain ⟨e1, he1, _, cx'⟩ := (hra.zs (fun k hk => hbw'.block k hk)).1 k (.int .u8 (x : Int)) (by simp [Hx.out])
          obtain ⟨e2, he2, _, cy'⟩ := (hrb.zs (fun k hk => hbw'.block k hk)).1 k (.int .u8 (y : Int)) (by simp [Hy.out])
          injection he1 with he1
          injection he2 with he2
          subst he1
          subst he2
          clear cx cy hbw
          generalize wr.drewN nq = wq at *
          go_wp2
          go_quiet ((go_at_call 56; exact Calls.quiet_of_same (order_q_o _ _ _)))
          go_wp2
          go_ret
          exact ⟨by rw [hres]; rfl, below_drewNv hbw' _⟩
      · have h2z : ¬ (k : Int) < (b.length : Int) := by omega
        have hres : R = cmpZ (a.length : Int) (b.length : Int) := by
          rw [← hH.out, List.drop_eq_getElem_cons h1, show b.drop k = [] from List.drop_eq_nil_of_le (by omega)]
          unfold cmpZ; rw [if_neg (by omega), if_pos (by omega)]; rfl
        go_wp2_with fail
        refine (order_q_o _ _ _).mono ?_
        rintro e w1 ⟨rfl, rfl⟩
        go_wp2
        go_ret
        exact ⟨by rw [hres]; rfl, hbw⟩
    · have h1z : ¬ (k : Int) < (a.length : Int) := by omega
      have hres : R = cmpZ (a.length : Int) (b.length : Int) := by
        rw [← hH.out, List.drop_eq_nil_of_le (by omega)]
        unfold cmpZ
        by_cases h2 : k < b.length
        · rw [List.drop_eq_getElem_cons h2, if_pos (by omega)]; rfl
        · rw [List.drop_eq_nil_of_le (by omega), if_neg (by omega), if_neg (by omega)]; rfl
      go_wp2_with fail
      refine (order_q_o _ _ _).mono ?_
      rintro e w1 ⟨rfl, rfl⟩
      go_wp2
      go_ret
      exact ⟨by rw [hres]; rfl, hbw⟩

end Go.Proofs.YtjacoodfhkaioaaGreatDoor
