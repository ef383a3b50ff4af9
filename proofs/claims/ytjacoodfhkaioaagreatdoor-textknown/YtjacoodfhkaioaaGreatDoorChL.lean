/- Texts of mine, one behind the other: TextOps3, TextOps4, TextTerm, TextNext, TextPrint, BigRShort. -/
import Derived.Test.YtjacoodfhkaioaaGreatDoorChK
import Derived.Lib.ItoaLen
import Derived.Laws.IdiomStrings
import Derived.Test.YtjacoodfhkaioaaGreatDoorChD
import Derived.Test.YtjacoodfhkaioaaGreatDoorChC
import Derived.Laws.Concat
namespace Go.Proofs.YtjacoodfhkaioaaGreatDoor
open Go.ChangeShapes Go.WideShapes Go.ChangeAt Go.RowKit Go.Shelf
set_option linter.unusedSimpArgs false
set_option linter.unusedVariables false
set_option maxRecDepth 2000

set_option maxHeartbeats 2000000 in
theorem ptuple_w (w0 : World) (g : Nat) (o : List UInt8) (ps : List Pc) (l : List Tm) (ol : Option Addr) (cl : Nat) (w : World) (h : PrnP w0 g o ps w) (hT : TR (Low w0) w0 l ol) (hl : l.length ≤ 1000000) (hn : ps.length ≤ 800000000) (ho : o.length ≤ 900000000) :
    Calls Tryz.prog 84 #[.pointer (some ⟨g, 0, none⟩), .slice ol l.length cl] w fun e w' => e = .returned (.tuple #[]) ∧ PrnP w0 g (o ++ [123]) (itemsPc l ++ .mk 125 :: ps) w' ∧ PK w w' := by
  have c1 := psign_w w0 g o ps 123 (by decide) w h (by omega)
  rw [show UInt8.ofNat 123 = 123 from rfl] at c1
  go_enter Tryz.func84, Tryz.ntmps84
  go_wp2_with fail
  refine c1.mono ?_
  rintro e w1 ⟨rfl, h1, k1⟩
  have c2 := pwait_w w0 g (o ++ [123]) ps (.mk 125) (.iface 75 (.int .i32 125)) w1 h1 rfl (by omega)
  clear c1
  go_wp2_with fail
  refine c2.mono ?_
  rintro e w2 ⟨rfl, h2, k2⟩
  clear c2 h1 h
  have hk2 := hid (k1.trans k2)
  have hz : (l.length : Int) ≤ 1000000 := by omega
  have h2H := hid h2
  clear k1 k2 h2
  go_wp2_with fail
  go_loopw [4] (fun v wr => ∃ j : Nat, j ≤ l.length ∧ v = .int .i64 ((j : Int) - 1) ∧ Hid (PrnP w0 g (o ++ [123]) (stI l j ++ .mk 125 :: ps) wr) ∧ Hid (PK w wr)) (fun v _ => (intOf v + 1).toNat)
  case atStart => exact ⟨l.length, Nat.le_refl _, by go_num, by rw [stI_full]; exact h2H, hk2⟩
  case round =>
    obtain ⟨j, hj, rfl, hP, hK⟩ := hrel
    cases j with
    | zero =>
      have hP2 := hP.out
      unfold stI at hP2
      rw [if_pos rfl] at hP2
      go_wp2
      go_returns
      exact ⟨rfl, hP2, hK.out⟩
    | succ j =>
      have hjl : j < l.length := by omega
      obtain ⟨t, ht⟩ : ∃ t, l[j]? = some t := ⟨l[j], by simp⟩
      obtain ⟨a, kk, neg, od, ld, cd, nm, n, oo, ll, cc, ob, lb, cb, rfl, hTV, y0, y1, y2, y3, y4, y5, y6⟩ := hT.get2 ht hP.out.below
      have e1 : (((j + 1 : Nat) : Int) - 1) = (j : Int) := by omega
      have hjz : (j : Int) < (l.length : Int) := by omega
      have hlen := stI_len l (j + 1) hj
      have c3 := pwait_w w0 g (o ++ [123]) (stI l (j + 1) ++ .mk 125 :: ps) (.tm t) (.iface 27 (tmV kk neg (.slice od ld cd) nm n (.slice oo ll cc) (.slice ob lb cb))) wr hP.out ⟨_, rfl, hTV⟩ (by simp; omega)
      rw [← List.cons_append, stI_step ht] at c3
      unfold tmV at c3
      clear hP ht hTV
      rw [e1]
      go_wp2_with fail
      refine c3.mono ?_
      rintro e w3 ⟨rfl, h3, k3⟩
      clear c3
      have hKK := hid (hK.out.trans k3)
      by_cases h0 : j = 0
      · subst h0
        have h3H := hid h3
        clear h3 k3 hK y0 y1 y2 y3 y4 y5 y6
        go_wp2
        exact ⟨⟨0, by omega, by go_num, by unfold stI; rw [if_pos rfl]; exact h3H, hKK⟩, by simp [intOf]⟩
      · have c4 := pwait_w w0 g (o ++ [123]) (itemsPc (l.drop j) ++ .mk 125 :: ps) (.mk 44) (.iface 75 (.int .i32 44)) w3 h3 rfl (by
          have e2 : (itemsPc (l.drop j)).length ≤ 2 * l.length + 1 := by
            have := stI_step (l := l) (j := j) (t := l[j]) (by simp)
            rw [← this]; simp; omega
          simp; omega)
        have e3 : stI l j = .mk 44 :: itemsPc (l.drop j) := by unfold stI; rw [if_neg h0, if_neg (by omega)]
        rw [← List.cons_append, ← e3] at c4
        have hjz0 : (0 : Int) < (j : Int) := by omega
        have hK3 := hKK.out
        clear h3 k3 hK y0 y1 y2 y3 y4 y5 y6 e3 hKK
        have hK3 := hid hK3
        go_wp2_with fail
        refine c4.mono ?_
        rintro e w4 ⟨rfl, h4, k4⟩
        have h4H := hid h4
        have hK4 := hid (hK3.out.trans k4)
        clear c4 h4 k4
        go_wp2
        exact ⟨⟨j, by omega, by go_num, h4H, hK4⟩, by simp [intOf]⟩
theorem byT_len (x : Nat) (h : x < 256) : (byT x).length ≤ 21 := Lib.itoa_length_le _ (by omega) (by omega)
theorem joinC_len (b : List Nat) (h : ∀ x ∈ b, x < 256) : (joinC (b.map byT)).length ≤ 22 * b.length := by
  match b with
  | [] => simp [joinC]
  | [x] => have := byT_len x (h x (by simp)); simp [joinC]; omega
  | x :: y :: b =>
    have ih := joinC_len (y :: b) (fun z hz => h z (by simp at hz ⊢; exact .inr hz))
    have := byT_len x (h x (by simp))
    simp only [List.map_cons, joinC, List.length_append, List.length_cons] at ih ⊢
    omega
theorem take_snoc {b : List Nat} {k x : Nat} (h : b[k]? = some x) : b.take (k + 1) = b.take k ++ [x] := by
  rw [List.take_add_one, h]; rfl
set_option maxHeartbeats 2000000 in
theorem pbin_w (w0 : World) (g : Nat) (o : List UInt8) (ps : List Pc) (b : List Nat) (ob : Option Addr) (cb : Nat) (w : World) (h : PrnP w0 g o ps w) (hT : LsB (Low w0) ob b w0) (hl : b.length ≤ 10000) (ho : o.length ≤ 900000000)
    (hP : Lib.TabBelow Tryz.prog w0.heap.size w0 "internal/strconv.uint64pow10" .u64 Lib.pow10Tab) :
    Calls Tryz.prog 85 #[.pointer (some ⟨g, 0, none⟩), .slice ob b.length cb] w fun e w' => e = .returned (.tuple #[]) ∧ PrnP w0 g (o ++ ([60, 60] ++ (joinC (b.map byT) ++ [62, 62]))) ps w' ∧ PK w w' := by
  obtain ⟨hLs, hLm⟩ := hT
  have c1 := ptext_w w0 g o ps ⟨#[60, 60]⟩ w h (by decide) (by omega)
  have hPH := hid hP
  clear hP
  go_enter Tryz.func85, Tryz.ntmps85
  go_wp2_with fail
  refine c1.mono ?_
  rintro e w1 ⟨rfl, h1, k1⟩
  clear c1 h
  have h1H := hid h1
  have k1H := hid k1
  clear h1 k1
  have hbz : (b.length : Int) ≤ 10000 := by omega
  go_wp2_with fail
  go_loopw [10] (fun v wr => ∃ k : Nat, v = .int .i64 (k : Int) ∧ k ≤ b.length ∧ Hid (PrnP w0 g (o ++ ([60, 60] ++ joinC ((b.take k).map byT))) ps wr) ∧ Hid (PK w wr)) (fun v _ => b.length - (intOf v).toNat)
  case atStart => exact ⟨0, rfl, Nat.zero_le _, by simpa [joinC] using h1H, k1H⟩
  case round =>
    obtain ⟨k, rfl, hk, hH, hK⟩ := hrel
    have hjl := joinC_len (b.take k) (fun x hx => hLm x (List.mem_of_mem_take hx))
    rw [List.length_take] at hjl
    have hlen : (o ++ ([60, 60] ++ joinC ((b.take k).map byT))).length ≤ 900300000 := by
      rw [List.length_append, List.length_append]; simp only [List.length_cons, List.length_nil]; omega
    have hlenH := hid hlen
    clear hjl hlen
    by_cases hkl : k < b.length
    · have hkz : (k : Int) < (b.length : Int) := by omega
      obtain ⟨x, hx⟩ : ∃ x, b[k]? = some x := ⟨b[k], by simp⟩
      obtain ⟨a, rfl, hZ, hc⟩ := hLs k (.int .u8 (x : Int)) (by simp [bts, hx])
      have hx8 : x < 256 := hLm x (List.mem_of_getElem? hx)
      have hcr : wr.cell? (a.add k) = some (.int .u8 (x : Int)) := (hH.out.below.cell (World.block_lt_of_cell? _ _ hc)).trans hc
      have hts : Hid ((b.take (k + 1)).map byT = (b.take k).map byT ++ [byT x]) := hid (by rw [take_snoc hx, List.map_append]; rfl)
      clear hc hx
      by_cases h0 : k = 0
      · subst h0
        rw [add_zero] at hcr
        have c2 := pnumber_w w0 g _ ps (x : Int) (by omega) (by omega) wr hH.out (by have := hlenH.out; omega) hPH.out
        go_wp2_with fail
        refine c2.mono ?_
        rintro e w2 ⟨rfl, h2, k2⟩
        have h2H := hid h2
        have k2H := hid (hK.out.trans k2)
        clear c2 h2 k2 hK hH
        go_wp2
        refine ⟨⟨1, by go_num, by omega, hid ?_, k2H⟩, by simp [intOf]; omega⟩
        have e := hts.out
        simp only [Nat.zero_add, List.take_zero, List.map_nil, List.nil_append] at e
        have h2 := h2H.out
        rw [e]
        simpa [joinC, byT] using h2
      · have hk0 : (0 : Int) < (k : Int) := by omega
        have c2 := psign_w w0 g _ ps 44 (by decide) wr hH.out (by have := hlenH.out; omega)
        rw [show UInt8.ofNat 44 = 44 from rfl] at c2
        have hkH := hid h0
        clear h0
        go_wp2_with fail
        refine c2.mono ?_
        rintro e w2 ⟨rfl, h2, k2⟩
        have c3 := pnumber_w w0 g _ ps (x : Int) (by omega) (by omega) w2 h2 (by have := hlenH.out; rw [List.length_append]; simp only [List.length_cons, List.length_nil]; omega) hPH.out
        clear c2
        have k2H := hid (hK.out.trans k2)
        clear h2 k2 hK hH
        go_wp2_with fail
        refine c3.mono ?_
        rintro e w3 ⟨rfl, h3, k3⟩
        have h3H := hid h3
        have k3H := hid (k2H.out.trans k3)
        clear c3 h3 k3 k2H
        go_wp2
        refine ⟨⟨k + 1, by go_num, by omega, hid ?_, k3H⟩, by simp [intOf]; omega⟩
        have e := hts.out
        have h3 := h3H.out
        have hne : (b.take k).map byT ≠ [] := by
          intro e2
          have := congrArg List.length e2
          have h0 := hkH.out
          rw [List.length_map, List.length_take] at this
          simp only [List.length_nil] at this
          omega
        rw [e, joinC_snoc, if_neg hne]
        simpa [byT] using h3
    · have hkz : ¬ (k : Int) < (b.length : Int) := by omega
      have hH2 := hH.out
      rw [List.take_of_length_le (by omega)] at hH2
      have c2 := ptext_w w0 g _ ps ⟨#[62, 62]⟩ wr hH2 (by decide) (by have h9 := hlenH.out; rw [List.take_of_length_le (by omega)] at h9; omega)
      clear hH hH2
      go_wp2_with fail
      refine c2.mono ?_
      rintro e w2 ⟨rfl, h2, k2⟩
      have h2H := hid h2
      have k2H := hid (hK.out.trans k2)
      clear c2 h2 k2 hK
      go_wp2
      go_returns
      exact ⟨rfl, by simpa using h2H.out, k2H.out⟩
end Go.Proofs.YtjacoodfhkaioaaGreatDoor
namespace Go.Proofs.YtjacoodfhkaioaaGreatDoor
open Go.ChangeShapes Go.WideShapes Go.ChangeAt Go.RowKit Go.Shelf
set_option linter.unusedSimpArgs false
set_option linter.unusedVariables false
set_option maxRecDepth 2000

/-- what is known of a part of a term that may be -/
def okX : Tm → Prop
  | .mk k neg d nm n l b => 0 ≤ k ∧ k ≤ 7 ∧ (k = 0 → d.length ≤ 64) ∧ nm.size ≤ 1000000 ∧ (k = 2 ∨ k = 3 → 0 ≤ n ∧ n ≤ 1073741824) ∧ (k = 4 → l.length ≤ 255) ∧ (k = 6 → l.length = 2) ∧ (k = 7 → b.length ≤ 4096)
theorem okX_fair (T : Tm) (h1 : T.ok1) (h : fairB T = true) : okX T := by
  cases T with | mk k neg d nm n l b =>
  unfold fairB at h
  rw [Bool.and_eq_true] at h
  obtain ⟨h2, h3⟩ := h
  obtain ⟨_, hnm, _⟩ := h1
  unfold leanB at h2
  unfold withinB at h3
  dsimp only at h3
  by_cases k0 : k = 0
  · rw [if_pos k0, Bool.and_eq_true] at h3
    have := of_decide_eq_true h3.1
    exact ⟨by omega, by omega, fun _ => by omega, hnm, fun e => by omega, fun e => by omega, fun e => by omega, fun e => by omega⟩
  rw [if_neg k0] at h3
  by_cases k1 : k = 1
  · exact ⟨by omega, by omega, fun e => by omega, hnm, fun e => by omega, fun e => by omega, fun e => by omega, fun e => by omega⟩
  rw [if_neg k1] at h3
  by_cases k2 : k = 2 ∨ k = 3
  · rw [if_pos k2, Bool.and_eq_true] at h3
    have h4 := of_decide_eq_true h3.1
    have h5 := of_decide_eq_true h3.2
    exact ⟨by omega, by omega, fun e => by omega, hnm, fun e => ⟨h4, h5⟩, fun e => by omega, fun e => by omega, fun e => by omega⟩
  rw [if_neg k2] at h3
  by_cases k4 : k = 4
  · rw [if_pos k4] at h3
    have h4 := of_decide_eq_true h3
    exact ⟨by omega, by omega, fun e => by omega, hnm, fun e => by omega, fun e => by omega, fun e => by omega, fun e => by omega⟩
  rw [if_neg k4] at h3
  by_cases k6 : k = 6
  · rw [if_pos k6] at h3
    have h4 : (l.length : Int) = 2 := by simpa using h3
    exact ⟨by omega, by omega, fun e => by omega, hnm, fun e => by omega, fun e => by omega, fun e => by omega, fun e => by omega⟩
  rw [if_neg k6] at h3
  by_cases k7 : k = 7
  · rw [if_pos k7] at h3
    have h4 := of_decide_eq_true h3
    exact ⟨by omega, by omega, fun e => by omega, hnm, fun e => by omega, fun e => by omega, fun e => by omega, fun e => by omega⟩
  have k5 : k = 5 := by
    have hp : prT (.mk k neg d nm n l b) = .mk 5 false [] noS 0 [] [] := by rw [prT]; simp [k0, k1, k4, k6, k7, show ¬ k = 2 by omega, show ¬ k = 3 by omega]
    rw [hp] at h2
    simp only [eqF, Bool.and_eq_true, decide_eq_true_eq] at h2
    omega
  exact ⟨by omega, by omega, fun e => by omega, hnm, fun e => by omega, fun e => by omega, fun e => by omega, fun e => by omega⟩
def okXs (T : Tm) : Prop := ∀ p ∈ parts T, okX p
theorem okXs.self {T : Tm} (h : okXs T) : okX T := h T (by rw [parts_eq]; simp)
theorem okXs.kid {T t : Tm} (h : okXs T) (ht : t ∈ T.kids) : okXs t := fun p hp => h p (by
  rw [parts_eq]
  refine List.mem_cons_of_mem _ ?_
  have hm : ∀ {l : List Tm}, t ∈ l → p ∈ partsL l := by
    intro l
    induction l with
    | nil => intro h; simp at h
    | cons u l ih =>
      intro h
      simp only [partsL, List.mem_append]
      rcases List.mem_cons.1 h with rfl | h
      · exact .inl hp
      · exact .inr (ih h)
  exact hm ht)
theorem txt_len {neg : Bool} {d : List Nat} (h : Lm 4294967296 d) (hl : d.length ≤ 64) : (txt (sv neg (gval 4294967296 d))).length ≤ 1000 := by
  have h1 := gval_lt h
  have h3 : (4294967296 : Nat) ^ d.length ≤ (10 ^ 10) ^ d.length := Nat.pow_le_pow_left (by omega) _
  rw [← Nat.pow_mul] at h3
  have h4 : gval 4294967296 d < 10 ^ (10 * d.length) := Nat.lt_of_lt_of_le h1 h3
  have h5 : (sv neg (gval 4294967296 d)).natAbs = gval 4294967296 d := by unfold sv; cases neg <;> simp
  have h6 := (glim_len (b := 10) (by omega) (gval 4294967296 d) (10 * d.length)).2 h4
  unfold txt txtN
  rw [List.length_map, h5]
  split
  · simp
  · rw [List.length_reverse, List.length_append, List.length_map]
    split <;> simp <;> omega
theorem quote_le (l : List UInt8) : (quoteL l).length ≤ 20 * l.length + 8 := by
  unfold quoteL
  split
  · split
    · omega
    · have h1 := en_length_le (quoteR (sg l))
      have h2 := escs_len (sg l)
      have h3 := sg_le l
      unfold quoteR at h1 ⊢
      simp only [List.length_cons, List.length_append, List.length_nil] at h1 ⊢
      omega
  · simp
end Go.Proofs.YtjacoodfhkaioaaGreatDoor
namespace Go.Proofs.YtjacoodfhkaioaaGreatDoor
open Go.ChangeShapes Go.WideShapes Go.ChangeAt Go.RowKit Go.Shelf
set_option linter.unusedSimpArgs false
set_option linter.unusedVariables false
set_option maxRecDepth 2000

def okPc : Pc → Prop
  | .mk r => r < 128
  | .tl T => okXs T
  | .tm T => okXs T
/-- a piece has been written, or laid open -/
def Went (w0 : World) (g : Nat) (o : List UInt8) (ps : List Pc) (w' : World) : Prop :=
  ∃ o' ps', PrnP w0 g o' ps' w' ∧ o' ++ rem ps' = o ++ rem ps ∧ works ps' < works ps ∧ (∀ p ∈ ps', okPc p) ∧ o'.length ≤ o.length + 30000000
theorem works_len : ∀ ps : List Pc, ps.length ≤ works ps
  | [] => by simp [works]
  | p :: ps => by
    have := works_len ps
    have : 1 ≤ p.work := by
      cases p with
      | mk r => simp [Pc.work]
      | tl T => simp [Pc.work]
      | tm T => have := parts_pos T; simp [Pc.work]; omega
    simp [works]; omega
theorem nums_at {w0 w : World} {neg : Bool} {d : List Nat} {od : Option Addr} {cd : Nat} (hL : Ls (Low w0) od (lim d) w0) (hc : d.length ≤ cd) (hm : Lm 4294967296 d) (h64 : d.length ≤ 64) (hb : Below w0.heap.size w0 w) :
    IsN (.agg #[.bool neg, .slice od d.length cd]) (sv neg (gval 4294967296 d)) 64 w :=
  ⟨neg, od, d, cd, rfl, hL.lies.below hb, hc, hm, rfl, h64⟩
set_option maxHeartbeats 2000000 in
theorem pterm0_w (w0 : World) (g : Nat) (o : List UInt8) (ps : List Pc) (k : Int) (neg : Bool) (d : List Nat) (nm : ByteArray) (n : Int) (l : List Tm) (b : List Nat) (v : Value) (w : World) (h : PrnP w0 g o ps w) (hT : TV (Low w0) w0 (.mk k neg d nm n l b) v)
    (hok : okXs (.mk k neg d nm n l b)) (hpo : ∀ p ∈ ps, okPc p) (hwk : works (.tm (.mk k neg d nm n l b) :: ps) ≤ 100000000) (ho : o.length ≤ 100000000) (hQ : TabsQ w0) (hP : Lib.TabBelow Tryz.prog w0.heap.size w0 "internal/strconv.uint64pow10" .u64 Lib.pow10Tab) (hk : k = 0 ∨ k = 1) :
    Calls Tryz.prog 41 #[.pointer (some ⟨g, 0, none⟩), v] w fun e w' => e = .returned (.tuple #[]) ∧ Went w0 g o (.tm (.mk k neg d nm n l b) :: ps) w' := by
  unfold TV at hT
  obtain ⟨od, cd, ol, cl, ob, cb, rfl, hLd, hcd, hLm, hLb, hcb, hcl, hTR⟩ := hT
  have hX := hok.self
  obtain ⟨k0, k7, x0, xn, x23, x4, x6, x7⟩ := hX
  have hps := works_len ps
  have hend : ∀ s : List UInt8, s = leafX k neg d nm n b → s.length ≤ 30000000 → ∀ w', PrnP w0 g (o ++ s) ps w' → Went w0 g o (.tm (.mk k neg d nm n l b) :: ps) w' := by
    intro s hs hl w' hp
    refine ⟨_, _, hp, ?_, ?_, hpo, by rw [List.length_append]; omega⟩
    · simp only [rem, Pc.text]
      rw [tx_leaf (by omega) (by omega), ← hs, List.append_assoc]
    · have := parts_pos (.mk k neg d nm n l b)
      simp only [works, Pc.work]; omega
  have hendH := hid hend
  have hnb : nm.data.toList.length = nm.size := rfl
  clear hend
  unfold tmV
  obtain ⟨W, hW⟩ : ∃ W, W = w.alloc (.cells #[.int .i64 k, .bool neg, .slice od d.length cd, .string nm, .int .i64 n, .slice ol l.length cl, .slice ob b.length cb] 27) := ⟨_, rfl⟩
  have bW : Below w.heap.size w W := by rw [hW]; exact (Below.refl _ w).alloc (Nat.le_refl _) _
  have hgW : W.heap[w.heap.size]? = some (.cells #[.int .i64 k, .bool neg, .slice od d.length cd, .string nm, .int .i64 n, .slice ol l.length cl, .slice ob b.length cb] 27 (0, 0)) := by rw [hW]; exact heap_alloc_new w _
  have hPW := h.later bW
  obtain ⟨y0, y1, y2, y3, y4, y5, y6⟩ := cell7 hgW
  have hPWH := hid hPW
  have hgWH := hid hgW
  clear h hgW hPW
  rcases hk with rfl | rfl
  · have c1 := text_w _ _ 64 W (by omega) (nums_at (neg := neg) hLd hcd hLm (x0 rfl) hPWH.out.below)
    have hl := txt_len (neg := neg) hLm (x0 rfl)
    have hs : leafX 0 neg d nm n b = txt (sv neg (gval 4294967296 d)) := by unfold leafX; rw [if_pos rfl]
    have hsH := hid (And.intro hl hs)
    clear x0 x23 x4 x6 x7 hl hs
    go_enter Tryz.func41, Tryz.ntmps41
    go_upto_region 1 with fail
    rw [← hW]
    clear hW
    go_wp2_with fail
    refine c1.mono ?_
    rintro e w1 ⟨rfl, b1⟩
    have c2 := ptext_w w0 g o ps ⟨(txt (sv neg (gval 4294967296 d))).toArray⟩ w1 (hPWH.out.later b1) (by have := hsH.out.1; show (txt _).toArray.size ≤ _; simp; omega) (by omega)
    clear c1
    go_wp2_with fail
    refine c2.mono ?_
    rintro e w2 ⟨rfl, h2, k2⟩
    have hq := hendH.out _ hsH.out.2.symm (by have := hsH.out.1; omega) w2 (by simpa using h2)
    have hqH := hid hq
    clear c2 h2 hq
    go_wp2
    all_goals go_returns
    all_goals exact ⟨rfl, hqH.out⟩
  · have c1 := quote_w nm W xn (hQ.below ⟨hPWH.out.below.os, hPWH.out.below.tape, hPWH.out.below.output, hPWH.out.below.size, hPWH.out.below.block⟩)
    have hl := quote_le nm.data.toList
    rw [hnb] at hl
    have hs : leafX 1 neg d nm n b = quoteL nm.data.toList := by unfold leafX; rw [if_neg (by decide), if_pos rfl]
    have hsH := hid (And.intro hl hs)
    clear x0 x23 x4 x6 x7 hl hs
    obtain ⟨R, hR⟩ : ∃ R, quoteL nm.data.toList = R := ⟨_, rfl⟩
    rw [hR] at c1 hsH
    go_enter Tryz.func41, Tryz.ntmps41
    go_upto_region 1 with fail
    rw [← hW]
    clear hW hR
    go_wp2_with fail
    refine c1.mono ?_
    rintro e w1 ⟨rfl, b1⟩
    have c2 := ptext_w w0 g o ps ⟨R.toArray⟩ w1 (hPWH.out.later b1) (by have := hsH.out.1; show R.toArray.size ≤ _; simp; omega) (by omega)
    clear c1
    go_wp2_with fail
    refine c2.mono ?_
    rintro e w2 ⟨rfl, h2, k2⟩
    have hq := hendH.out _ hsH.out.2.symm (by have := hsH.out.1; omega) w2 (by simpa using h2)
    have hqH := hid hq
    clear c2 h2 hq
    go_wp2
    all_goals go_returns
    all_goals exact ⟨rfl, hqH.out⟩
set_option maxHeartbeats 2000000 in
theorem pterm1_w (w0 : World) (g : Nat) (o : List UInt8) (ps : List Pc) (k : Int) (neg : Bool) (d : List Nat) (nm : ByteArray) (n : Int) (l : List Tm) (b : List Nat) (v : Value) (w : World) (h : PrnP w0 g o ps w) (hT : TV (Low w0) w0 (.mk k neg d nm n l b) v)
    (hok : okXs (.mk k neg d nm n l b)) (hpo : ∀ p ∈ ps, okPc p) (hwk : works (.tm (.mk k neg d nm n l b) :: ps) ≤ 100000000) (ho : o.length ≤ 100000000) (hP : Lib.TabBelow Tryz.prog w0.heap.size w0 "internal/strconv.uint64pow10" .u64 Lib.pow10Tab) (hk : k = 2 ∨ k = 3 ∨ k = 5 ∨ k = 7) :
    Calls Tryz.prog 41 #[.pointer (some ⟨g, 0, none⟩), v] w fun e w' => e = .returned (.tuple #[]) ∧ Went w0 g o (.tm (.mk k neg d nm n l b) :: ps) w' := by
  unfold TV at hT
  obtain ⟨od, cd, ol, cl, ob, cb, rfl, hLd, hcd, hLm, hLb, hcb, hcl, hTR⟩ := hT
  have hX := hok.self
  obtain ⟨k0, k7, x0, xn, x23, x4, x6, x7⟩ := hX
  have hps := works_len ps
  have hend : ∀ s : List UInt8, s = leafX k neg d nm n b → s.length ≤ 30000000 → ∀ w', PrnP w0 g (o ++ s) ps w' → Went w0 g o (.tm (.mk k neg d nm n l b) :: ps) w' := by
    intro s hs hl w' hp
    refine ⟨_, _, hp, ?_, ?_, hpo, by rw [List.length_append]; omega⟩
    · simp only [rem, Pc.text]
      rw [tx_leaf (by omega) (by omega), ← hs, List.append_assoc]
    · have := parts_pos (.mk k neg d nm n l b)
      simp only [works, Pc.work]; omega
  have hendH := hid hend
  have hPH := hid hP
  clear hend hP
  unfold tmV
  obtain ⟨W, hW⟩ : ∃ W, W = w.alloc (.cells #[.int .i64 k, .bool neg, .slice od d.length cd, .string nm, .int .i64 n, .slice ol l.length cl, .slice ob b.length cb] 27) := ⟨_, rfl⟩
  have bW : Below w.heap.size w W := by rw [hW]; exact (Below.refl _ w).alloc (Nat.le_refl _) _
  have hgW : W.heap[w.heap.size]? = some (.cells #[.int .i64 k, .bool neg, .slice od d.length cd, .string nm, .int .i64 n, .slice ol l.length cl, .slice ob b.length cb] 27 (0, 0)) := by rw [hW]; exact heap_alloc_new w _
  have hPW := h.later bW
  obtain ⟨y0, y1, y2, y3, y4, y5, y6⟩ := cell7 hgW
  have hPWH := hid hPW
  have hgWH := hid hgW
  clear h hgW hPW
  rcases hk with rfl | rfl | rfl | rfl
  · obtain ⟨n0, n1⟩ := x23 (.inl rfl)
    have hl := Lib.itoa_length_le n (by omega) (by omega)
    have hs : leafX 2 neg d nm n b = 35 :: Lib.itoa n := by unfold leafX; rw [if_neg (by decide), if_neg (by decide), if_pos rfl]
    have hsH := hid (And.intro hl hs)
    have hnH := hid (And.intro n0 n1)
    clear x0 x23 x4 x6 x7 hl hs n0 n1
    go_enter Tryz.func41, Tryz.ntmps41
    go_upto_region 1 with fail
    rw [← hW]
    clear hW
    have c1 := psign_w w0 g o ps 35 (by decide) W hPWH.out (by omega)
    go_wp2_with fail
    refine c1.mono ?_
    rintro e w1 ⟨rfl, h1, k1⟩
    obtain ⟨y0, y1, y2, y3, y4, y5, y6⟩ := cell7 (k1.cell hgWH.out (by decide) (by decide) (by decide))
    have c2 := pnumber_w w0 g _ ps n (by have := hnH.out; omega) (by have := hnH.out; omega) w1 h1 (by rw [List.length_append]; simp only [List.length_cons, List.length_nil]; omega) hPH.out
    clear c1 h1
    go_wp2_with fail
    refine c2.mono ?_
    rintro e w2 ⟨rfl, h2, k2⟩
    have hqH := hid (hendH.out _ hsH.out.2.symm (by have := hsH.out.1; simp only [List.length_cons]; omega) w2 (by simpa using h2))
    clear c2 h2
    go_wp2
    all_goals go_returns
    all_goals exact ⟨rfl, hqH.out⟩
  · obtain ⟨n0, n1⟩ := x23 (.inr rfl)
    have hl := Lib.itoa_length_le n (by omega) (by omega)
    have hs : leafX 3 neg d nm n b = 60 :: (Lib.itoa n ++ [62]) := by unfold leafX; rw [if_neg (by decide), if_neg (by decide), if_neg (by decide), if_pos rfl]
    have hsH := hid (And.intro hl hs)
    have hnH := hid (And.intro n0 n1)
    clear x0 x23 x4 x6 x7 hl hs n0 n1
    go_enter Tryz.func41, Tryz.ntmps41
    go_upto_region 1 with fail
    rw [← hW]
    clear hW
    have c1 := psign_w w0 g o ps 60 (by decide) W hPWH.out (by omega)
    go_wp2_with fail
    refine c1.mono ?_
    rintro e w1 ⟨rfl, h1, k1⟩
    obtain ⟨y0, y1, y2, y3, y4, y5, y6⟩ := cell7 (k1.cell hgWH.out (by decide) (by decide) (by decide))
    have c2 := pnumber_w w0 g _ ps n (by have := hnH.out; omega) (by have := hnH.out; omega) w1 h1 (by rw [List.length_append]; simp only [List.length_cons, List.length_nil]; omega) hPH.out
    clear c1 h1
    go_wp2_with fail
    refine c2.mono ?_
    rintro e w2 ⟨rfl, h2, k2⟩
    have c3 := psign_w w0 g _ ps 62 (by decide) w2 h2 (by have := hsH.out.1; rw [List.length_append, List.length_append]; simp only [List.length_cons, List.length_nil]; omega)
    clear c2 h2
    go_wp2_with fail
    refine c3.mono ?_
    rintro e w3 ⟨rfl, h3, k3⟩
    have hqH := hid (hendH.out _ hsH.out.2.symm (by have := hsH.out.1; simp only [List.length_cons, List.length_append, List.length_nil]; omega) w3 (by simpa using h3))
    clear c3 h3
    go_wp2
    all_goals go_returns
    all_goals exact ⟨rfl, hqH.out⟩
  · have hs : leafX 5 neg d nm n b = [91, 93] := by unfold leafX; rw [if_neg (by decide), if_neg (by decide), if_neg (by decide), if_neg (by decide), if_neg (by decide)]
    have hsH := hid hs
    clear x0 x23 x4 x6 x7 hs
    go_enter Tryz.func41, Tryz.ntmps41
    go_upto_region 1 with fail
    rw [← hW]
    clear hW
    have c1 := ptext_w w0 g o ps ⟨#[91, 93]⟩ W hPWH.out (by decide) (by omega)
    go_wp2_with fail
    refine c1.mono ?_
    rintro e w1 ⟨rfl, h1, k1⟩
    have hqH := hid (hendH.out _ hsH.out.symm (by simp) w1 (by simpa using h1))
    clear c1 h1
    go_wp2
    all_goals go_returns
    all_goals exact ⟨rfl, hqH.out⟩
  · have hb4 := x7 rfl
    have hl := joinC_len b (fun x hx => hLb.2 x hx)
    have hs : leafX 7 neg d nm n b = [60, 60] ++ (joinC (b.map byT) ++ [62, 62]) := by unfold leafX; rw [if_neg (by decide), if_neg (by decide), if_neg (by decide), if_neg (by decide), if_pos rfl]
    have hsH := hid (And.intro hl (And.intro hs hb4))
    have c1 := pbin_w w0 g o ps b ob cb W hPWH.out hLb (by omega) (by omega) hPH.out
    clear x0 x23 x4 x6 x7 hs hl hb4
    go_enter Tryz.func41, Tryz.ntmps41
    go_upto_region 1 with fail
    rw [← hW]
    clear hW
    go_wp2_with fail
    refine c1.mono ?_
    rintro e w1 ⟨rfl, h1, k1⟩
    have hqH := hid (hendH.out _ hsH.out.2.1.symm (by have := hsH.out.1; have := hsH.out.2.2; rw [List.length_append, List.length_append]; simp only [List.length_cons, List.length_nil]; omega) w1 h1)
    clear c1 h1
    go_wp2
    all_goals go_returns
    all_goals exact ⟨rfl, hqH.out⟩
theorem pair_of {l : List Tm} (h : l.length = 2) : ∃ H T, l = [H, T] := by
  match l, h with
  | [H, T], _ => exact ⟨H, T, rfl⟩
theorem okPc_items : ∀ {l : List Tm}, (∀ t ∈ l, okXs t) → ∀ p ∈ itemsPc l, okPc p
  | [], _, p, hp => by simp [itemsPc] at hp
  | t :: l, h, p, hp => by
    rw [items_cons] at hp
    split at hp
    · simp at hp; subst hp; exact h t (by simp)
    · rcases List.mem_cons.1 hp with rfl | hp
      · exact h t (by simp)
      · rcases List.mem_cons.1 hp with rfl | hp
        · show 44 < 128; decide
        · exact okPc_items (fun u hu => h u (List.mem_cons_of_mem _ hu)) p hp
set_option maxHeartbeats 2000000 in
theorem pterm2_w (w0 : World) (g : Nat) (o : List UInt8) (ps : List Pc) (k : Int) (neg : Bool) (d : List Nat) (nm : ByteArray) (n : Int) (l : List Tm) (b : List Nat) (v : Value) (w : World) (h : PrnP w0 g o ps w) (hT : TV (Low w0) w0 (.mk k neg d nm n l b) v)
    (hok : okXs (.mk k neg d nm n l b)) (hpo : ∀ p ∈ ps, okPc p) (hwk : works (.tm (.mk k neg d nm n l b) :: ps) ≤ 100000000) (ho : o.length ≤ 100000000) (hk : k = 4 ∨ k = 6) :
    Calls Tryz.prog 41 #[.pointer (some ⟨g, 0, none⟩), v] w fun e w' => e = .returned (.tuple #[]) ∧ Went w0 g o (.tm (.mk k neg d nm n l b) :: ps) w' := by
  have hT0 := hT
  unfold TV at hT
  obtain ⟨od, cd, ol, cl, ob, cb, rfl, hLd, hcd, hLm, hLb, hcb, hcl, hTR⟩ := hT
  have hX := hok.self
  obtain ⟨k0, k7, x0, xn, x23, x4, x6, x7⟩ := hX
  have hps := works_len ps
  have hkids : ∀ t ∈ l, okXs t := fun t ht => hok.kid (by show t ∈ (if k = 4 ∨ k = 6 then l else []); rw [if_pos hk]; exact ht)
  have hpl : (parts (.mk k neg d nm n l b)).length = 1 + (partsL l).length := kids_mem (by show (if k = 4 ∨ k = 6 then l else []) = l; rw [if_pos hk])
  have hwk2 : ps.length ≤ 100000000 := by simp only [works] at hwk; omega
  have hT0H := hid hT0
  clear hT0
  unfold tmV
  obtain ⟨W, hW⟩ : ∃ W, W = w.alloc (.cells #[.int .i64 k, .bool neg, .slice od d.length cd, .string nm, .int .i64 n, .slice ol l.length cl, .slice ob b.length cb] 27) := ⟨_, rfl⟩
  have bW : Below w.heap.size w W := by rw [hW]; exact (Below.refl _ w).alloc (Nat.le_refl _) _
  have hgW : W.heap[w.heap.size]? = some (.cells #[.int .i64 k, .bool neg, .slice od d.length cd, .string nm, .int .i64 n, .slice ol l.length cl, .slice ob b.length cb] 27 (0, 0)) := by rw [hW]; exact heap_alloc_new w _
  have hPW := h.later bW
  obtain ⟨y0, y1, y2, y3, y4, y5, y6⟩ := cell7 hgW
  have hPWH := hid hPW
  have hgWH := hid hgW
  clear h hgW hPW
  rcases hk with rfl | rfl
  · have hl4 := x4 rfl
    have hw := works_items l
    have hfin : ∀ w', PrnP w0 g (o ++ [123]) (itemsPc l ++ .mk 125 :: ps) w' → Went w0 g o (.tm (.mk 4 neg d nm n l b) :: ps) w' := by
      intro w' hp
      refine ⟨_, _, hp, ?_, ?_, ?_, by simp⟩
      · simp only [rem, rem_append, Pc.text]
        rw [tx_tuple, rem_items]
        simp
      · simp only [works, works_append, Pc.work]; omega
      · intro p hp
        rcases List.mem_append.1 hp with hp | hp
        · exact okPc_items hkids p hp
        · rcases List.mem_cons.1 hp with rfl | hp
          · show 125 < 128; decide
          · exact hpo p hp
    have hfinH := hid hfin
    have c1 := ptuple_w w0 g o ps l ol cl W hPWH.out hTR (by omega) (by omega) (by omega)
    clear x0 x23 x4 x6 x7 hfin hw hpl
    go_enter Tryz.func41, Tryz.ntmps41
    go_upto_region 1 with fail
    rw [← hW]
    clear hW
    go_wp2_with fail
    refine c1.mono ?_
    rintro e w1 ⟨rfl, h1, k1⟩
    have hqH := hid (hfinH.out w1 h1)
    clear c1 h1
    go_wp2
    all_goals go_returns
    all_goals exact ⟨rfl, hqH.out⟩
  · obtain ⟨H, T, rfl⟩ := pair_of (x6 rfl)
    have hfin : ∀ w', PrnP w0 g (o ++ [91]) (.tm H :: .tl T :: ps) w' → Went w0 g o (.tm (.mk 6 neg d nm n [H, T] b) :: ps) w' := by
      intro w' hp
      refine ⟨_, _, hp, ?_, ?_, ?_, by simp⟩
      · simp only [rem, Pc.text]
        rw [tx_cons]
        simp
      · have h1 := parts_pos H
        have h2 := parts_pos T
        have e : (partsL [H, T]).length = (parts H).length + (parts T).length := by simp [partsL]
        simp only [works, Pc.work]; omega
      · intro p hp
        rcases List.mem_cons.1 hp with rfl | hp
        · exact hkids H (by simp)
        · rcases List.mem_cons.1 hp with rfl | hp
          · exact hkids T (by simp)
          · exact hpo p hp
    have hfinH := hid hfin
    have c1 := psign_w w0 g o ps 91 (by decide) W hPWH.out (by omega)
    simp only [List.length_cons, List.length_nil, Nat.zero_add, Nat.reduceAdd] at hW hgWH
    clear x0 x23 x4 x6 x7 hfin hpl
    go_enter Tryz.func41, Tryz.ntmps41
    go_upto_region 1 with fail
    rw [← hW]
    clear hW
    go_wp2_with fail
    refine c1.mono ?_
    rintro e w1 ⟨rfl, h1, k1⟩
    obtain ⟨y0, y1, y2, y3, y4, y5, y6⟩ := cell7 (k1.cell hgWH.out (by decide) (by decide) (by decide))
    have c2 := pcons_w w0 g _ ps neg d nm n H T b _ w1 h1 hT0H.out (by omega)
    unfold tmV at c2
    simp only [List.length_cons, List.length_nil, Nat.zero_add, Nat.reduceAdd] at c2
    clear c1 h1
    go_wp2_with fail
    refine c2.mono ?_
    rintro e w2 ⟨rfl, h2, k2⟩
    have hqH := hid (hfinH.out w2 h2)
    clear c2 h2
    go_wp2
    all_goals go_returns
    all_goals exact ⟨rfl, hqH.out⟩
theorem pterm_w (w0 : World) (g : Nat) (o : List UInt8) (ps : List Pc) (T : Tm) (v : Value) (w : World) (h : PrnP w0 g o ps w) (hT : TV (Low w0) w0 T v)
    (hok : okXs T) (hpo : ∀ p ∈ ps, okPc p) (hwk : works (.tm T :: ps) ≤ 100000000) (ho : o.length ≤ 100000000) (hQ : TabsQ w0) (hP : Lib.TabBelow Tryz.prog w0.heap.size w0 "internal/strconv.uint64pow10" .u64 Lib.pow10Tab) :
    Calls Tryz.prog 41 #[.pointer (some ⟨g, 0, none⟩), v] w fun e w' => e = .returned (.tuple #[]) ∧ Went w0 g o (.tm T :: ps) w' := by
  cases T with | mk k neg d nm n l b =>
  obtain ⟨k0, k7, _⟩ := hok.self
  by_cases h01 : k = 0 ∨ k = 1
  · exact pterm0_w w0 g o ps k neg d nm n l b v w h hT hok hpo hwk ho hQ hP h01
  · by_cases h46 : k = 4 ∨ k = 6
    · exact pterm2_w w0 g o ps k neg d nm n l b v w h hT hok hpo hwk ho h46
    · exact pterm1_w w0 g o ps k neg d nm n l b v w h hT hok hpo hwk ho hP (by omega)
end Go.Proofs.YtjacoodfhkaioaaGreatDoor
namespace Go.Proofs.YtjacoodfhkaioaaGreatDoor
open Go.ChangeShapes Go.WideShapes Go.ChangeAt Go.RowKit Go.Shelf
set_option linter.unusedSimpArgs false
set_option linter.unusedVariables false
set_option maxRecDepth 2000

set_option maxHeartbeats 2000000 in
theorem pbehind_w (w0 : World) (g : Nat) (o : List UInt8) (ps : List Pc) (T : Tm) (v : Value) (w : World) (h : PrnP w0 g o ps w) (hT : TV (Low w0) w0 T v)
    (hok : okXs T) (hpo : ∀ p ∈ ps, okPc p) (hwk : works (.tl T :: ps) ≤ 100000000) (ho : o.length ≤ 100000000) :
    Calls Tryz.prog 40 #[.pointer (some ⟨g, 0, none⟩), v] w fun e w' => e = .returned (.tuple #[]) ∧ Went w0 g o (.tl T :: ps) w' := by
  have hT0 := hT
  cases T with | mk k neg d nm n l b =>
  unfold TV at hT
  obtain ⟨od, cd, ol, cl, ob, cb, rfl, hLd, hcd, hLm, hLb, hcb, hcl, hTR⟩ := hT
  obtain ⟨k0, k7, x0, xn, x23, x4, x6, x7⟩ := hok.self
  have hps := works_len ps
  have hwk2 : ps.length ≤ 100000000 := by simp only [works] at hwk; omega
  have hT0H := hid hT0
  clear hT0 x0 x23 x4 x7 hTR hLd hLm hLb
  unfold tmV
  obtain ⟨W, hW⟩ : ∃ W, W = w.alloc (.cells #[.int .i64 k, .bool neg, .slice od d.length cd, .string nm, .int .i64 n, .slice ol l.length cl, .slice ob b.length cb] 27) := ⟨_, rfl⟩
  have bW : Below w.heap.size w W := by rw [hW]; exact (Below.refl _ w).alloc (Nat.le_refl _) _
  have hgW : W.heap[w.heap.size]? = some (.cells #[.int .i64 k, .bool neg, .slice od d.length cd, .string nm, .int .i64 n, .slice ol l.length cl, .slice ob b.length cb] 27 (0, 0)) := by rw [hW]; exact heap_alloc_new w _
  have hPW := h.later bW
  obtain ⟨y0, y1, y2, y3, y4, y5, y6⟩ := cell7 hgW
  have hPWH := hid hPW
  have hgWH := hid hgW
  clear h hgW hPW
  by_cases h6 : k = 6
  · subst h6
    obtain ⟨H, T, rfl⟩ := pair_of (x6 rfl)
    have hkids : ∀ t ∈ [H, T], okXs t := fun t ht => hok.kid ht
    have hpl : (parts (.mk 6 neg d nm n [H, T] b)).length = 1 + (partsL [H, T]).length := kids_mem rfl
    have hfin : ∀ w', PrnP w0 g (o ++ [44]) (.tm H :: .tl T :: ps) w' → Went w0 g o (.tl (.mk 6 neg d nm n [H, T] b) :: ps) w' := by
      intro w' hp
      refine ⟨_, _, hp, ?_, ?_, ?_, by simp⟩
      · simp only [rem, Pc.text]
        rw [tb_cons]
        simp
      · have h1 := parts_pos H
        have h2 := parts_pos T
        have e : (partsL [H, T]).length = (parts H).length + (parts T).length := by simp [partsL]
        simp only [works, Pc.work]; omega
      · intro p hp
        rcases List.mem_cons.1 hp with rfl | hp
        · exact hkids H (by simp)
        · rcases List.mem_cons.1 hp with rfl | hp
          · exact hkids T (by simp)
          · exact hpo p hp
    have hfinH := hid hfin
    have c1 := psign_w w0 g o ps 44 (by decide) W hPWH.out (by omega)
    simp only [List.length_cons, List.length_nil, Nat.zero_add, Nat.reduceAdd] at hW hgWH
    clear x6 hfin hpl hkids
    go_enter Tryz.func40, Tryz.ntmps40
    go_upto_region 1 with fail
    rw [← hW]
    clear hW
    go_wp2_with fail
    refine c1.mono ?_
    rintro e w1 ⟨rfl, h1, k1⟩
    obtain ⟨y0, y1, y2, y3, y4, y5, y6⟩ := cell7 (k1.cell hgWH.out (by decide) (by decide) (by decide))
    have c2 := pcons_w w0 g _ ps neg d nm n H T b _ w1 h1 hT0H.out (by omega)
    unfold tmV at c2
    simp only [List.length_cons, List.length_nil, Nat.zero_add, Nat.reduceAdd] at c2
    clear c1 h1
    go_wp2_with fail
    refine c2.mono ?_
    rintro e w2 ⟨rfl, h2, k2⟩
    have hqH := hid (hfinH.out w2 h2)
    clear c2 h2
    go_wp2
    all_goals go_returns
    all_goals exact ⟨rfl, hqH.out⟩
  · by_cases h5 : k = 5
    · subst h5
      have hfin : ∀ w', PrnP w0 g (o ++ [93]) ps w' → Went w0 g o (.tl (.mk 5 neg d nm n l b) :: ps) w' := by
        intro w' hp
        refine ⟨_, _, hp, ?_, ?_, hpo, by simp⟩
        · simp only [rem, Pc.text]
          rw [tb_nil]
          simp
        · have h1 := parts_pos (.mk 5 neg d nm n l b)
          simp only [works, Pc.work]; omega
      have hfinH := hid hfin
      have c1 := psign_w w0 g o ps 93 (by decide) W hPWH.out (by omega)
      clear x6 hfin h6
      go_enter Tryz.func40, Tryz.ntmps40
      go_upto_region 1 with fail
      rw [← hW]
      clear hW
      go_wp2_with fail
      refine c1.mono ?_
      rintro e w1 ⟨rfl, h1, k1⟩
      have hqH := hid (hfinH.out w1 h1)
      clear c1 h1
      go_wp2
      all_goals go_returns
      all_goals exact ⟨rfl, hqH.out⟩
    · have h6b : (k == 6) = false := by simpa using h6
      have h5b : (k == 5) = false := by simpa using h5
      have hfin : ∀ w', PrnP w0 g (o ++ [124]) (.tm (.mk k neg d nm n l b) :: .mk 93 :: ps) w' → Went w0 g o (.tl (.mk k neg d nm n l b) :: ps) w' := by
        intro w' hp
        refine ⟨_, _, hp, ?_, ?_, ?_, by simp⟩
        · simp only [rem, Pc.text]
          rw [tb_other (T := .mk k neg d nm n l b) h5 h6]
          simp
        · have h1 := parts_pos (.mk k neg d nm n l b)
          simp only [works, Pc.work]; omega
        · intro p hp
          rcases List.mem_cons.1 hp with rfl | hp
          · exact hok
          · rcases List.mem_cons.1 hp with rfl | hp
            · show 93 < 128; decide
            · exact hpo p hp
      have hfinH := hid hfin
      have c1 := psign_w w0 g o ps 124 (by decide) W hPWH.out (by omega)
      clear x6 hfin h6 h5
      go_enter Tryz.func40, Tryz.ntmps40
      go_upto_region 1 with fail
      rw [← hW]
      clear hW
      go_wp2_with fail
      refine c1.mono ?_
      rintro e w1 ⟨rfl, h1, k1⟩
      have c2 := pwait_w w0 g _ ps (.mk 93) (.iface 75 (.int .i32 93)) w1 h1 rfl (by omega)
      have hgw1 := hid (k1.cell hgWH.out (by decide) (by decide) (by decide))
      clear c1 h1
      go_wp2_with fail
      refine c2.mono ?_
      rintro e w2 ⟨rfl, h2, k2⟩
      obtain ⟨y0, y1, y2, y3, y4, y5, y6⟩ := cell7 (k2.cell hgw1.out (by decide) (by decide) (by decide))
      have c3 := pwait_w w0 g _ (.mk 93 :: ps) (.tm (.mk k neg d nm n l b)) (.iface 27 (tmV k neg (.slice od d.length cd) nm n (.slice ol l.length cl) (.slice ob b.length cb))) w2 h2 ⟨_, rfl, hT0H.out⟩ (by simp; omega)
      unfold tmV at c3
      clear c2 h2
      go_wp2_with fail
      refine c3.mono ?_
      rintro e w3 ⟨rfl, h3, k3⟩
      have hqH := hid (hfinH.out w3 h3)
      clear c3 h3
      go_wp2
      all_goals go_returns
      all_goals exact ⟨rfl, hqH.out⟩
abbrev z7 : Value := .agg #[.int .i64 0, .bool false, .slice none 0 0, .string noS, .int .i64 0, .slice none 0 0, .slice none 0 0]
theorem as_mm (x : Value) (w : World) : (Instr.typeAssert (.iface 75 x) 67 75 true).run Tryz.prog w = .ok (.tuple #[x, .bool true]) w := by kernel_rfl
theorem as_tm (x : Value) (w : World) : (Instr.typeAssert (.iface 79 x) 67 75 true).run Tryz.prog w = .ok (.tuple #[.int .i32 0, .bool false]) w := by kernel_rfl
theorem as_tt (x : Value) (w : World) : (Instr.typeAssert (.iface 79 x) 67 79 true).run Tryz.prog w = .ok (.tuple #[x, .bool true]) w := by kernel_rfl
theorem as_em (x : Value) (w : World) : (Instr.typeAssert (.iface 27 x) 67 75 true).run Tryz.prog w = .ok (.tuple #[.int .i32 0, .bool false]) w := by kernel_rfl
theorem as_et (x : Value) (w : World) : (Instr.typeAssert (.iface 27 x) 67 79 true).run Tryz.prog w = .ok (.tuple #[z7, .bool false]) w := by kernel_rfl
theorem as_ee (x : Value) (w : World) : (Instr.typeAssert (.iface 27 x) 67 27 true).run Tryz.prog w = .ok (.tuple #[x, .bool true]) w := by kernel_rfl
theorem own_cut {w : World} {B : Nat} {e : TypeId} {q c m k : Nat} {xs ys : List Value} (h : w.ownsRow B e 1 (.slice (some ⟨q, 0, none⟩) m c) m (xs ++ ys)) (hk : k = xs.length) : w.ownsRow B e 1 (.slice (some ⟨q, 0, none⟩) k c) k xs := by
  obtain ⟨h1, ⟨e1, _⟩ | ⟨g, cap, cur, e1, hg, hc, hn, hm, hs, ht⟩⟩ := h
  · cases e1
  · cases e1
    rw [List.length_append, Nat.mul_one] at h1
    refine ⟨by omega, .inr ⟨q, c, cur, rfl, hg, hc, by omega, hm, hs, ?_⟩⟩
    rw [Nat.mul_one] at ht ⊢
    have : cur.toList.take k = (cur.toList.take m).take k := by rw [List.take_take]; congr 1; omega
    rw [this, ht, hk]
    exact List.take_left
theorem prn_top {w0 : World} {g : Nat} {o : List UInt8} {p : Pc} {ps : List Pc} {w : World} (h : PrnP w0 g o (p :: ps) w) :
    ∃ v q c m, PcV w0 p v ∧ w.cell? ⟨g, 1, none⟩ = some (.slice (some ⟨q, 0, none⟩) (m + 1) c) ∧ w.frozen? ⟨g, 1, none⟩ = false ∧ w.cell? ⟨q, m, none⟩ = some v ∧ m + 1 ≤ c ∧ m = ps.length ∧ PrnP w0 g o ps (w.setCell ⟨g, 1, none⟩ (.slice (some ⟨q, 0, none⟩) m c)) := by
  obtain ⟨ov, wv, vs, h⟩ := h
  obtain ⟨c0, c1, f0, f1⟩ := h.cells
  obtain ⟨us, v, rfl, hp, hps⟩ := h.is
  have hl := hps.length
  have hw := h.wait
  rcases hw.2 with ⟨_, h0⟩ | ⟨q, c, cur, e, hq, hc, hn, hm, _⟩
  · simp at h0
  · subst e
    have hcell := hw.cells (g := q) rfl us.length v (by simp)
    rw [addr_add, Nat.zero_add] at hcell
    simp only [List.length_append, List.length_cons, List.length_nil, Nat.zero_add] at c1 hn hw
    refine ⟨v, q, c, us.length, hp, c1, f1, hcell, hn, hl, ov, .slice (some ⟨q, 0, none⟩) us.length c, us, ?_⟩
    exact h.waits (Lib.OthersKept.refl _ _ w) (Below.refl _ w) (own_cut hw rfl) hps
set_option maxHeartbeats 2000000 in
theorem pnext_w (w0 : World) (g : Nat) (o : List UInt8) (p : Pc) (ps : List Pc) (w : World) (h : PrnP w0 g o (p :: ps) w) (hpo : ∀ q ∈ p :: ps, okPc q) (hwk : works (p :: ps) ≤ 100000000) (ho : o.length ≤ 100000000) (hQ : TabsQ w0) (hP : Lib.TabBelow Tryz.prog w0.heap.size w0 "internal/strconv.uint64pow10" .u64 Lib.pow10Tab) :
    Calls Tryz.prog 25 #[.pointer (some ⟨g, 0, none⟩)] w fun e w' => e = .returned (.tuple #[]) ∧ Went w0 g o (p :: ps) w' := by
  obtain ⟨v, q, c, m, hp, c1, f1, hcell, hmc, hm, h2⟩ := prn_top h
  have hpl := works_len (p :: ps)
  have hm8 : m ≤ 100000000 := by simp only [List.length_cons] at hpl; omega
  have hmz : (m : Int) ≤ 100000000 := by omega
  have hmcz : (m : Int) ≤ (c : Int) := by omega
  have hpo2 : ∀ r ∈ ps, okPc r := fun r hr => hpo r (List.mem_cons_of_mem _ hr)
  have h2H := hid h2
  have hmH := hid hm
  clear hm h2 hpl h
  cases p with
  | mk r =>
    have hr : r < 128 := hpo (.mk r) (by simp)
    have hv : v = .iface 75 (.int .i32 (r : Int)) := hp
    subst hv
    have hfin : ∀ w', PrnP w0 g (o ++ [UInt8.ofNat r]) ps w' → Went w0 g o (.mk r :: ps) w' := fun w' hp => ⟨_, _, hp, by simp [rem, Pc.text], by simp only [works, Pc.work]; omega, hpo2, by simp⟩
    have hfinH := hid hfin
    have ha := as_mm (.int .i32 (r : Int))
    have c2 := psign_w w0 g o ps r hr _ h2H.out (by omega)
    clear hfin
    go_enter Tryz.func25, Tryz.ntmps25
    go_wp2_with fail
    refine c2.mono ?_
    rintro e w1 ⟨rfl, h1, k1⟩
    have hqH := hid (hfinH.out w1 h1)
    clear c2 h1
    go_wp2
    all_goals go_returns
    all_goals exact ⟨rfl, hqH.out⟩
  | tl T =>
    obtain ⟨a, rfl, hTV⟩ := hp
    have hTV0 := hTV
    cases T with | mk k neg d nm n l b =>
    unfold TV at hTV0
    obtain ⟨od, cd, ol, cl, ob, cb, rfl, _⟩ := hTV0
    have hok : okXs (.mk k neg d nm n l b) := hpo (.tl (.mk k neg d nm n l b)) (by simp)
    have ha := as_tm (tmV k neg (.slice od d.length cd) nm n (.slice ol l.length cl) (.slice ob b.length cb))
    have hb := as_tt (tmV k neg (.slice od d.length cd) nm n (.slice ol l.length cl) (.slice ob b.length cb))
    unfold tmV at ha hb hcell
    have hTVH := hid hTV
    clear hTV
    go_enter Tryz.func25, Tryz.ntmps25
    go_upto_region 8 with fail
    generalize hV : w.setCell ⟨g, 1, none⟩ (.slice (some ⟨q, 0, none⟩) m c) = V at *
    have hVs : V.heap.size = w.heap.size := by rw [← hV]; simp
    generalize hW : World.alloc V _ = W
    have bW : Below V.heap.size V W := by rw [← hW]; exact (Below.refl _ V).alloc (Nat.le_refl _) _
    have hgW : W.heap[w.heap.size]? = some (.cells #[.int .i64 k, .bool neg, .slice od d.length cd, .string nm, .int .i64 n, .slice ol l.length cl, .slice ob b.length cb] 79 (0, 0)) := by rw [← hW, ← hVs]; exact heap_alloc_new V _
    obtain ⟨y0, y1, y2, y3, y4, y5, y6⟩ := cell7 hgW
    have c2 := pbehind_w w0 g o ps (.mk k neg d nm n l b) _ W (h2H.out.later bW) hTVH.out hok hpo2 hwk ho
    unfold tmV at c2
    clear hgW hW hV bW hVs hcell c1 f1
    go_wp2_with fail
    refine c2.mono ?_
    rintro e w1 ⟨rfl, h1⟩
    have hqH := hid h1
    clear c2 h1
    go_wp2
    all_goals go_returns
    all_goals exact ⟨rfl, hqH.out⟩
  | tm T =>
    obtain ⟨a, rfl, hTV⟩ := hp
    have hTV0 := hTV
    cases T with | mk k neg d nm n l b =>
    unfold TV at hTV0
    obtain ⟨od, cd, ol, cl, ob, cb, rfl, _⟩ := hTV0
    have hok : okXs (.mk k neg d nm n l b) := hpo (.tm (.mk k neg d nm n l b)) (by simp)
    have ha := as_em (tmV k neg (.slice od d.length cd) nm n (.slice ol l.length cl) (.slice ob b.length cb))
    have hb := as_et (tmV k neg (.slice od d.length cd) nm n (.slice ol l.length cl) (.slice ob b.length cb))
    have hc := as_ee (tmV k neg (.slice od d.length cd) nm n (.slice ol l.length cl) (.slice ob b.length cb))
    unfold tmV at ha hb hc hcell
    have hTVH := hid hTV
    clear hTV
    go_enter Tryz.func25, Tryz.ntmps25
    go_upto_region 11 with fail
    generalize hV : w.setCell ⟨g, 1, none⟩ (.slice (some ⟨q, 0, none⟩) m c) = V at *
    have hVs : V.heap.size = w.heap.size := by rw [← hV]; simp
    generalize hU : World.alloc V _ = U
    have bU : Below V.heap.size V U := by rw [← hU]; exact (Below.refl _ V).alloc (Nat.le_refl _) _
    have hUs : U.heap.size = w.heap.size + 1 := by rw [← hU, ← hVs]; simp
    generalize hW : World.alloc U _ = W
    have bW : Below U.heap.size U W := by rw [← hW]; exact (Below.refl _ U).alloc (Nat.le_refl _) _
    have hgW : W.heap[w.heap.size + 1]? = some (.cells #[.int .i64 k, .bool neg, .slice od d.length cd, .string nm, .int .i64 n, .slice ol l.length cl, .slice ob b.length cb] 27 (0, 0)) := by rw [← hW, ← hUs]; exact heap_alloc_new U _
    obtain ⟨y0, y1, y2, y3, y4, y5, y6⟩ := cell7 hgW
    have c2 := pterm_w w0 g o ps (.mk k neg d nm n l b) _ W ((h2H.out.later bU).later bW) hTVH.out hok hpo2 hwk ho hQ hP
    unfold tmV at c2
    clear hgW hW hV bW hVs hcell c1 f1 hU bU hUs
    go_wp2_with fail
    refine c2.mono ?_
    rintro e w1 ⟨rfl, h1⟩
    have hqH := hid h1
    clear c2 h1
    go_wp2
    all_goals go_returns
    all_goals exact ⟨rfl, hqH.out⟩
end Go.Proofs.YtjacoodfhkaioaaGreatDoor
namespace Go.Proofs.YtjacoodfhkaioaaGreatDoor
open Go.ChangeShapes Go.WideShapes Go.ChangeAt Go.RowKit Go.Shelf
set_option linter.unusedSimpArgs false
set_option linter.unusedVariables false
set_option maxRecDepth 2000

def prE (T : Tm) : Int := if mayB T then (if (tx T).length ≤ 65536 then 0 else 3) else 1
def prS (T : Tm) : List UInt8 := if mayB T then (if (tx T).length ≤ 65536 then tx T else []) else []
theorem may_ok {T : Tm} (hok : ∀ p ∈ parts T, p.ok1) (h : mayB T = true) : okXs T ∧ (parts T).length ≤ 65536 := by
  unfold mayB at h
  rw [Bool.and_eq_true] at h
  obtain ⟨h1, h2⟩ := h
  have h3 := of_decide_eq_true h1
  refine ⟨fun p hp => okX_fair p (hok p hp) (List.all_eq_true.1 h2 p hp), ?_⟩
  unfold treeN at h3
  omega
theorem conv_out {w : World} {B : Nat} {ov : Value} {o : List UInt8} (h : w.ownsRow B 5 1 ov o.length (Lib.byteCells o)) (ho : o.length ≤ 1000000000) :
    (convert 25 9 ov).run Tryz.prog w = .ok (.string ⟨o.toArray⟩) w := by
  rcases h.2 with ⟨rfl, h0⟩ | ⟨q, c, cur, rfl, hq, hc, hn, hm, _⟩
  · have : o = [] := List.eq_nil_of_length_eq_zero h0
    subst this
    rfl
  · refine run_convert_bytes_back _ _ _ 5 ⟨q, 0, none⟩ _ o Tryz.underlying25 Tryz.underlying5 Tryz.underlying9 ?_
    intro j hj
    exact h.cells (g := q) rfl j (.int .u8 ((o[j]).toNat : Int)) (by simp [Lib.byteCells, hj])
theorem tab_up {w w' : World} {zs : List Int} (h : Lib.TabBelow Tryz.prog w.heap.size w "internal/strconv.uint64pow10" .u64 zs) (hb : Below w.heap.size w w') : Lib.TabBelow Tryz.prog w'.heap.size w' "internal/strconv.uint64pow10" .u64 zs := fun w2 h2 => h w2 (hb.trans (below_le h2 hb.size))
theorem prn_new (w0 : World) (T : Tm) (v : Value) (W1 W2 : World) (hT : TV (Low w0) w0 T v) (e1 : W1 = w0.alloc (.cells #[.iface 27 v] 67)) (e2 : W2 = W1.alloc (.cells #[.slice none 0 0, .slice (some ⟨w0.heap.size, 0, none⟩) 1 1] 58)) :
    PrnP w0 (w0.heap.size + 1) [] [.tm T] W2 := by
  have hs : W1.heap.size = w0.heap.size + 1 := by rw [e1]; simp
  have b1 : Below w0.heap.size w0 W1 := by rw [e1]; exact (Below.refl _ w0).alloc (Nat.le_refl _) _
  have b2 : Below W1.heap.size W1 W2 := by rw [e2]; exact (Below.refl _ W1).alloc (Nat.le_refl _) _
  have hg1 : W1.heap[w0.heap.size]? = some (.cells #[.iface 27 v] 67 (0, 0)) := by rw [e1]; exact heap_alloc_new w0 _
  have hg2 : W2.heap[w0.heap.size]? = some (.cells #[.iface 27 v] 67 (0, 0)) := (b2.block _ (by omega)).trans hg1
  refine ⟨.slice none 0 0, .slice (some ⟨w0.heap.size, 0, none⟩) 1 1, [.iface 27 v], ?_, by omega, World.ownsRow_nil _ _ _ _, ?_, ⟨[], _, rfl, ⟨v, rfl, hT⟩, rfl⟩, b1.trans (below_le b2 (by omega))⟩
  · rw [e2, ← hs]; exact heap_alloc_new W1 _
  · exact ⟨rfl, .inr ⟨w0.heap.size, 1, _, rfl, Nat.le_refl _, hg2, Nat.le_refl _, by unfold maxLen; omega, rfl, rfl⟩⟩
theorem prn_see {w0 : World} {g : Nat} {o : List UInt8} {ps : List Pc} {w : World} (h : PrnP w0 g o ps w) (ho : o.length ≤ 1000000000) :
    ∃ oo cc ow cw, w.cell? ⟨g, 0, none⟩ = some (.slice oo o.length cc) ∧ w.cell? ⟨g, 1, none⟩ = some (.slice ow ps.length cw) ∧ (convert 25 9 (.slice oo o.length cc)).run Tryz.prog w = .ok (.string ⟨o.toArray⟩) w := by
  obtain ⟨ov, wv, vs, h⟩ := h
  obtain ⟨c0, c1, f0, f1⟩ := h.cells
  have hc := conv_out h.out ho
  have hl := h.is.length
  obtain ⟨oo, cc, rfl⟩ := own_form h.out
  obtain ⟨ow, cw, rfl⟩ := own_form h.wait
  rw [hl] at c1
  exact ⟨oo, cc, ow, cw, c0, c1, hc⟩
set_option maxHeartbeats 4000000 in
set_option maxRecDepth 4000 in
theorem print_w (T : Tm) (v : Value) (w : World) (hD : dep T ≤ 1000000) (hok : ∀ p ∈ parts T, p.ok1) (hT : TV (Low w) w T v) (hTa : Tabs w) (hQ : TabsQ w) (hP : Lib.TabBelow Tryz.prog w.heap.size w "internal/strconv.uint64pow10" .u64 Lib.pow10Tab) :
    Calls Tryz.prog 13 #[v] w fun e w' => e = .returned (.tuple #[.string ⟨(prS T).toArray⟩, .int .i64 (prE T)]) ∧ Below w.heap.size w w' := by
  obtain ⟨k, neg, od, ld, cd, nm, n, ol, ll, cl, ob, lb, cb, rfl⟩ := hT.form
  obtain ⟨W, hW⟩ : ∃ W, W = w.alloc (.cells #[.int .i64 k, .bool neg, .slice od ld cd, .string nm, .int .i64 n, .slice ol ll cl, .slice ob lb cb] 27) := ⟨_, rfl⟩
  have bW : Below w.heap.size w W := by rw [hW]; exact (Below.refl _ w).alloc (Nat.le_refl _) _
  have hgW : W.heap[w.heap.size]? = some (.cells #[.int .i64 k, .bool neg, .slice od ld cd, .string nm, .int .i64 n, .slice ol ll cl, .slice ob lb cb] 27 (0, 0)) := by rw [hW]; exact heap_alloc_new w _
  obtain ⟨y0, y1, y2, y3, y4, y5, y6⟩ := cell7 hgW
  have c1 := May_w T _ W hD hok (tv_below hT bW) (hTa.below bW)
  obtain ⟨E, hE⟩ : ∃ E, prE T = E := ⟨_, rfl⟩
  obtain ⟨S, hS⟩ : ∃ S, prS T = S := ⟨_, rfl⟩
  rw [hE, hS]
  have hEH := hid hE
  have hSH := hid hS
  clear hE hS
  unfold tmV at c1 ⊢
  go_enter Tryz.func13, Tryz.ntmps13
  go_upto_region 1 with fail
  rw [← hW]
  clear hW
  go_wp2_with fail
  refine c1.mono ?_
  rintro e w1 ⟨rfl, b1⟩
  clear c1
  have hB1 : Below w.heap.size w w1 := bW.trans (below_le b1 bW.size)
  have hgw1 : w1.heap[w.heap.size]? = some (.cells #[.int .i64 k, .bool neg, .slice od ld cd, .string nm, .int .i64 n, .slice ol ll cl, .slice ob lb cb] 27 (0, 0)) := (b1.block _ (Array.getElem?_eq_some_iff.1 hgW).1).trans hgW
  have hT1 := tv_below hT hB1
  cases hm : mayB T
  · have e1 : E = 1 := by rw [← hEH.out]; unfold prE; rw [hm]; rfl
    have e2 : S = [] := by rw [← hSH.out]; unfold prS; rw [hm]; rfl
    subst e1 e2
    clear hm y0 y1 y2 y3 y4 y5 y6 hgW
    go_wp2
    all_goals go_ret2
    all_goals exact ⟨rfl, hB1⟩
  · obtain ⟨hX, hpl⟩ := may_ok hok hm
    have hXH := hid (And.intro hX hpl)
    have e1 : Hid (E = if (tx T).length ≤ 65536 then 0 else 3) := hid (by rw [← hEH.out]; unfold prE; rw [hm]; rfl)
    have e2 : Hid (S = if (tx T).length ≤ 65536 then tx T else []) := hid (by rw [← hSH.out]; unfold prS; rw [hm]; rfl)
    clear y0 y1 y2 y3 y4 y5 y6 hgW hm hX hpl hEH hSH
    obtain ⟨y0, y1, y2, y3, y4, y5, y6⟩ := cell7 hgw1
    go_upto_region 4 with fail
    have hPn := prn_new w1 T _ _ _ hT1 rfl rfl
    generalize World.alloc (World.alloc w1 _) _ = W2 at *
    have hPnH := hid hPn
    have hQ1 := hid (hQ.below hB1)
    have hP1 := hid (tab_up hP hB1)
    clear hPn hQ hP y0 y1 y2 y3 y4 y5 y6 hgw1 hT1 hT hTa hok b1 bW
    go_loopg [] (works [.tm T]) (fun t wr => ∃ o ps, t = works ps ∧ Hid (PrnP w1 (w1.heap.size + 1) o ps wr) ∧ Hid (o ++ rem ps = tx T) ∧ Hid (∀ p ∈ ps, okPc p) ∧ o.length ≤ 31000000 ∧ Hid (works ps ≤ 300000))
    case atStart => exact ⟨[], [.tm T], rfl, hPnH, hid (by simp [rem, Pc.text]), hid (by intro p hp; simp at hp; subst hp; exact hXH.out.1), by simp, hid (by have := hXH.out.2; simp only [works, Pc.work]; omega)⟩
    case round =>
      obtain ⟨o, ps, hgk, hPr, hR, hO, ho, hwk⟩ := hrel
      obtain ⟨oo, cc, ow, cw, c0, c1, hcv⟩ := prn_see hPr.out (by omega)
      have hbb : Below w.heap.size w wr := hB1.trans (below_le hPr.out.below hB1.size)
      have hgkH := hid hgk
      clear hgk
      cases ps with
      | nil =>
        have hR2 := hR.out
        simp only [rem, List.append_nil] at hR2
        by_cases h6 : o.length ≤ 65536
        · have h6z : ¬ (65536 : Int) < (o.length : Int) := by omega
          have q1 : E = 0 := by rw [e1.out, ← hR2, if_pos h6]
          have q2 : S = o := by rw [e2.out, ← hR2, if_pos h6]
          subst q1 q2
          clear hR2
          go_wp2
          go_ret2
          exact ⟨rfl, hbb⟩
        · have h6z : (65536 : Int) < (o.length : Int) := by omega
          have q1 : E = 3 := by rw [e1.out, ← hR2, if_neg h6]
          have q2 : S = [] := by rw [e2.out, ← hR2, if_neg h6]
          subst q1 q2
          clear hR2 hcv
          go_wp2
          go_ret2
          exact ⟨rfl, hbb⟩
      | cons p ps =>
        have hlz : (0 : Int) < ((ps.length + 1 : Nat) : Int) := by omega
        by_cases h6 : o.length ≤ 65536
        · have h6z : (o.length : Int) ≤ 65536 := by omega
          have c2 := pnext_w w1 (w1.heap.size + 1) o p ps wr hPr.out hO.out (by have := hwk.out; omega) (by omega) hQ1.out hP1.out
          clear hcv
          go_wp2_with fail
          refine c2.mono ?_
          rintro e w2 ⟨rfl, o', ps', h2, hr2, hw2, ho2, hl2⟩
          have hgk2 := hgkH.out
          clear c2
          go_wp2
          go_roundg (works ps')
          case measure => omega
          case rel => exact ⟨o', ps', rfl, hid h2, hid (by rw [hr2]; exact hR.out), hid ho2, by omega, hid (by have := hwk.out; omega)⟩
        · have h6z : (65536 : Int) < (o.length : Int) := by omega
          have hlen : 65536 < (tx T).length := by rw [← hR.out, List.length_append]; omega
          have q1 : E = 3 := by rw [e1.out, if_neg (by omega)]
          have q2 : S = [] := by rw [e2.out, if_neg (by omega)]
          subst q1 q2
          clear hlen hcv
          go_wp2
          go_ret2
          exact ⟨rfl, hbb⟩
end Go.Proofs.YtjacoodfhkaioaaGreatDoor
namespace Go.Proofs.YtjacoodfhkaioaaGreatDoor
open Go.ChangeShapes Go.WideShapes Go.ChangeAt Go.RowKit
set_option linter.unusedSimpArgs false
set_option linter.unusedVariables false
set_option maxRecDepth 2000
set_option maxHeartbeats 1000000 in
theorem short_w (o : Option Addr) (c d : Nat) (l : List Nat) (w : World) (hd0 : 0 < d) (hd : d < 4294967296) (hl : Lm 4294967296 l) (hlen : l.length ≤ 1000000) (hO : Lies o l w) :
    Calls Tryz.prog 89 #[.slice o l.length c, .int .u64 (d : Int)] w fun e w' => ∃ sl, e = .returned (.tuple #[sl, .int .u64 ((gval 4294967296 l % d : Nat) : Int)]) ∧ Fr w.heap.size sl (glim 4294967296 (gval 4294967296 l / d)) w' ∧ Below w.heap.size w w' := by
  obtain ⟨R, hR⟩ : ∃ R, gval 4294967296 l % d = R := ⟨_, rfl⟩
  obtain ⟨G, hG⟩ : ∃ G, gval 4294967296 l / d = G := ⟨_, rfl⟩
  rw [hR, hG]
  have hR' := hid hR
  have hG' := hid hG
  clear hR hG
  have hmk := run_make_row' (P := Tryz.prog) 23 145 (.int .u32 0) 4 Tryz.underlying23 info32u rfl .i64 .i64 l.length (by omega) (by omega) w
  have hOwn := Own.made l.length w
  have hB1 : Below w.heap.size w (w.alloc (.cells (madeCells #[.int .u32 0] l.length) 145)) := (Below.refl _ w).alloc (Nat.le_refl _) _
  have hg1 : w.heap.size < (w.alloc (.cells (madeCells #[.int .u32 0] l.length) 145)).heap.size := by simp
  go_enter Tryz.func89, Tryz.ntmps89
  go_wp2
  generalize w.alloc (.cells (madeCells #[.int .u32 0] l.length) 145) = W1 at *
  clear hmk
  go_loopw [7, 8] (fun rv i wr => ∃ (k r : Nat) (L : List Nat), rv = .int .u64 (r : Int) ∧ i = .int .i64 ((k : Int) - 1) ∧ k ≤ l.length ∧ r < d ∧ Own w.heap.size L wr ∧ w.heap.size < wr.heap.size ∧ L.length = l.length ∧ Lm 4294967296 L ∧ Below w.heap.size w wr ∧ Hid (gval 4294967296 (L.drop k) * d + r = gval 4294967296 (l.drop k))) (fun _ i _ => (intOf i + 1).toNat)
  case atStart => exact ⟨l.length, 0, _, rfl, by go_num, Nat.le_refl _, hd0, hOwn, hg1, by simp, Lm.replicate (by omega) _, hB1, hid (by simp [gval])⟩
  case round =>
    obtain ⟨k, r, L, rfl, rfl, hk, hr, hL, hg, hLl, hLm, hbw, hH⟩ := hrel
    clear hOwn hB1 hg1
    by_cases h0 : k = 0
    · subst h0
      have hh := hH.out
      simp only [List.drop_zero] at hh
      have e1 : gval 4294967296 L = G := by
        rw [← hG'.out, ← hh, Nat.add_comm, Nat.add_mul_div_right _ _ hd0, Nat.div_eq_of_lt hr]; omega
      have e2 : R = r := by rw [← hR'.out, ← hh, Nat.add_comm, Nat.add_mul_mod_self_right, Nat.mod_eq_of_lt hr]
      have hN := own_isN (K := 1000000) false hL hLm e1 (by omega)
      rw [hLl] at hN
      subst e2
      have hfd := field34
      clear hh hH hR' hG' e1
      go_wp2_with fail
      refine (rnorm_w _ (sv false G) 1000000 _ (by omega) hN).mono ?_
      rintro e w4 ⟨s4, rfl, hF4, hk4, b4⟩
      have en : (sv false G).natAbs = G := by simp [sv]
      rw [en] at hF4
      have hF5 := hF4.mono hbw.size
      obtain ⟨o4, c4, rfl, _, _, _⟩ := hF4.parts
      have hBw := below_and hbw (Nat.le_refl _) b4
      clear en
      go_wp2
      exact bodyPost_ret (v := .tuple #[.slice o4 (glim 4294967296 G).length c4, .int .u64 (R : Int)]) (by simp [results, Tryz.results89, go_sem]) rfl ⟨_, rfl, hF5, hBw⟩
    · obtain ⟨j, rfl⟩ : ∃ j, k = j + 1 := ⟨k - 1, by omega⟩
      obtain ⟨x, hx⟩ : ∃ x, l[j]? = some x := ⟨l[j]'(by omega), by simp⟩
      obtain ⟨a, rfl, cx⟩ := (hO.below hbw) j x hx
      have cL := hL.1 j (L[j]'(by omega)) (by simp)
      have fx := hL.2 j
      have hxm := hl.at hx
      have e1 : (((j + 1 : Nat) : Int) - 1) = (j : Int) := by omega
      have hjl : (j : Int) < (l.length : Int) := by omega
      obtain ⟨cur, hcur⟩ : ∃ cur, r * 4294967296 + x = cur := ⟨_, rfl⟩
      obtain ⟨rb, hrb⟩ : ∃ rb, r * 4294967296 = rb := ⟨_, rfl⟩
      have w0 : IntKind.u64.wrap (x : Int) = (x : Int) := by rw [IntKind.wrap_u64]; omega
      have w1 : IntKind.u64.wrap ((r : Int) * 4294967296) = (rb : Int) := by rw [IntKind.wrap_u64]; omega
      have w2 : bits .or .u64 (rb : Int) (x : Int) = (cur : Int) := by
        have := or32 (r := r) (x := x) (by omega) hxm
        rw [hrb] at this
        rw [this, ← hcur, hrb]
      have hq : cur / d < 4294967296 := by
        rw [Nat.div_lt_iff_lt_mul hd0, ← hcur]
        have : (r + 1) * 4294967296 ≤ d * 4294967296 := Nat.mul_le_mul_right _ hr
        rw [Nat.mul_comm d] at this
        omega
      have hdz : ((d : Int) == 0) = false := by simp; omega
      have hdn : ¬ (d : Int) = 0 := by omega
      obtain ⟨Q, hQ⟩ : ∃ Q, cur / d = Q := ⟨_, rfl⟩
      obtain ⟨r2, hr2⟩ : ∃ r2, cur % d = r2 := ⟨_, rfl⟩
      have hr2d : r2 < d := by rw [← hr2]; exact Nat.mod_lt _ hd0
      rw [hQ] at hq
      have w3 : IntKind.u64.wrap ((cur : Int) / (d : Int)) = (Q : Int) := by
        rw [show (cur : Int) / (d : Int) = (Q : Int) by rw [← hQ]; exact (Int.natCast_ediv cur d).symm, IntKind.wrap_u64]; omega
      have w4 : IntKind.u32.wrap (Q : Int) = (Q : Int) := by rw [IntKind.wrap_u32]; omega
      have w5 : (cur : Int) % (d : Int) = (r2 : Int) := by rw [← hr2]; exact (Int.natCast_emod cur d).symm
      have hdm : Hid (Q * d + r2 = r * 4294967296 + x) := hid (by rw [← hQ, ← hr2, hcur, Nat.mul_comm]; exact Nat.div_add_mod cur d)
      clear hQ hr2
      have hc1 := hid hcur
      have hc2 := hid hrb
      clear hcur hrb
      rw [e1]
      go_wp2
      go_roundw
      case rel =>
        refine ⟨j, r2, L.set j Q, by rw [w5], by go_num, by omega, hr2d, hL.set _ (by omega), by simpa using hg, by simp [hLl], hLm.set _ _ hq, hbw.setCell (Nat.le_refl _) _, hid ?_⟩
        rw [gval_drop_set _ _ (by omega), gval_drop_at _ hx]
        exact shrink_step hdm.out hH.out
      case measure => simp [intOf]; try omega
theorem app_mk (x y : Array UInt8) : (⟨x⟩ : ByteArray) ++ ⟨y⟩ = ⟨x ++ y⟩ := by
  apply ByteArray.ext; simp
theorem digits10 : ∀ k : Fin 10, ((⟨#[48, 49, 50, 51, 52, 53, 54, 55, 56, 57, 97, 98, 99, 100, 101, 102]⟩ : ByteArray).extract k.val (k.val + 1)) = ⟨#[UInt8.ofNat (48 + k.val)]⟩ := by decide +kernel
theorem slice10 (q : Nat) (hq : q < 10) (w : World) : (Instr.slice 9 (.string ⟨#[48, 49, 50, 51, 52, 53, 54, 55, 56, 57, 97, 98, 99, 100, 101, 102]⟩) (some (.int .u64 (q : Int))) (some (.int .u64 ((q : Int) + 1))) none).run Tryz.prog w = .ok (.string ⟨#[UInt8.ofNat (48 + q)]⟩) w := by
  have h := run_slice_string (P := Tryz.prog) w 9 ⟨#[48, 49, 50, 51, 52, 53, 54, 55, 56, 57, 97, 98, 99, 100, 101, 102]⟩ .u64 .u64 (q : Int) ((q : Int) + 1) Tryz.underlying9 (by omega) (by omega) (by show (q : Int) + 1 ≤ 16; omega)
  rw [show ((q : Int)).toNat = q by omega, show ((q : Int) + 1).toNat = q + 1 by omega] at h
  have hd := digits10 ⟨q, hq⟩
  simp only [] at hd
  rw [hd] at h
  exact h
set_option maxHeartbeats 1000000 in
theorem digits10_w (r : Nat) (hr : r < 10) (w : World) :
    Calls Tryz.prog 46 #[.int .u64 (r : Int), .int .u64 10] w fun e w' => e = .returned (.string ⟨#[UInt8.ofNat (48 + r)]⟩) ∧ Below w.heap.size w w' := by
  have hsl := slice10 r hr
  obtain ⟨ch, hch⟩ : ∃ ch, UInt8.ofNat (48 + r) = ch := ⟨_, rfl⟩
  rw [hch] at hsl ⊢
  clear hch
  go_enter Tryz.func46, Tryz.ntmps46
  go_wp2
  go_loopw [0, 5] (fun n s wr => Below w.heap.size w wr ∧ n = .int .u64 (r : Int) ∧ s = .string ⟨#[]⟩) (fun n _ _ => (intOf n).toNat)
  case atStart => exact ⟨Below.refl _ _, rfl, rfl⟩
  case round =>
    obtain ⟨hbw, rfl, rfl⟩ := hrel
    have hm : ((r : Int)) % 10 = (r : Int) := by omega
    have hm' : ((r : Int)).tmod 10 = (r : Int) := by rw [Int.tmod_eq_emod_of_nonneg (by omega)]; omega
    have hw : IntKind.u64.wrap ((r : Int) + 1) = (r : Int) + 1 := by rw [IntKind.wrap_u64]; omega
    have hdv : ((r : Int)).tdiv 10 = 0 := by rw [Int.tdiv_eq_ediv_of_nonneg (by omega)]; omega
    have hdv' : ((r : Int)) / 10 = 0 := by omega
    go_wp2
    go_quiet (fail)
    go_wp2
    go_ret
    refine ⟨?_, below_drewNv hbw _⟩
    show Ending.returned (Value.string _) = _
    rw [app_mk]; rfl
theorem glim_step {m : Nat} (h : 0 < m) : glim 10 m = m % 10 :: glim 10 (m / 10) := glim_pos (by omega) h
/-- the bytes of digits, lowest first, as they are written -/
def dtx (ds : List Nat) : List UInt8 := ((ds.map fun d => 48 + d).reverse).map UInt8.ofNat
theorem dtx_snoc (ds : List Nat) (r : Nat) : dtx (ds ++ [r]) = UInt8.ofNat (48 + r) :: dtx ds := by
  unfold dtx; simp
theorem dtx_len (ds : List Nat) : (dtx ds).length = ds.length := by unfold dtx; simp
theorem txt_pos {Z : Int} (h : Z ≠ 0) : txt Z = (if Z < 0 then [45] else []) ++ dtx (glim 10 Z.natAbs) := by
  unfold txt txtN dtx
  rw [if_neg h]
  by_cases hz : Z < 0
  · rw [if_pos hz, if_pos hz]; simp
  · rw [if_neg hz, if_neg hz]; simp
set_option maxHeartbeats 2000000 in
theorem numText_w (va : Value) (Z : Int) (K : Nat) (w : World) (hK : K ≤ 1000) (ha : IsN va Z K w) :
    Calls Tryz.prog 44 #[va] w fun e w' => e = .returned (.string ⟨(txt Z).toArray⟩) ∧ Below w.heap.size w w' := by
  have hA : ∀ w', Below w.heap.size w w' → IsN va Z K w' := fun w' hw => ha.below hw
  obtain ⟨na, oa, la, ca, rfl, hLa, hca, hma, hsa, hka⟩ := ha
  clear hLa hca hma hsa hka
  obtain ⟨kA, hB0, hz0⟩ := newbox w (.bool na) (.slice oa la.length ca) 84
  obtain ⟨T, hT⟩ : ∃ T, txt Z = T := ⟨_, rfl⟩
  rw [hT]
  have hT' := hid hT
  clear hT
  obtain ⟨f1, f2, f3, f4⟩ := id kA
  go_enter Tryz.func44, Tryz.ntmps44
  go_wp2_with fail
  generalize (w.alloc (.cells #[.bool na, .slice oa la.length ca] 84)) = W0 at *
  refine (rnorm_w _ Z K _ (by omega) (hA _ hB0)).mono ?_
  rintro e w1 ⟨s1, rfl, hF1, hk1, b1⟩
  have hB1 := below_and hB0 (Nat.le_refl _) b1
  have kA1 := kA.below b1 (by omega)
  obtain ⟨o1, c1, rfl, L1, z1, _⟩ := hF1.parts
  have kA2 := kA1.put (u' := .bool (decide (Z < 0))) (v' := .slice o1 (glim 4294967296 Z.natAbs).length c1)
  have L2 := L1.box kA1 (.bool (decide (Z < 0))) (.slice o1 (glim 4294967296 Z.natAbs).length c1)
  have hB2 := (hB1.setCell (p := ⟨w.heap.size, 0, none⟩) (Nat.le_refl _) (.bool (decide (Z < 0)))).setCell (p := ⟨w.heap.size, 1, none⟩) (Nat.le_refl _) (.slice o1 (glim 4294967296 Z.natAbs).length c1)
  have hg2 : w.heap.size < ((w1.setCell ⟨w.heap.size, 0, none⟩ (.bool (decide (Z < 0)))).setCell ⟨w.heap.size, 1, none⟩ (.slice o1 (glim 4294967296 Z.natAbs).length c1)).heap.size := kA2.lt
  clear f1 f2 f3 f4
  obtain ⟨f1, f2, f3, f4⟩ := id kA1
  go_wp2
  generalize ((w1.setCell ⟨w.heap.size, 0, none⟩ (.bool (decide (Z < 0)))).setCell ⟨w.heap.size, 1, none⟩ (.slice o1 (glim 4294967296 Z.natAbs).length c1)) = W2 at *
  clear f1 f2 f3 f4 kA kA1 L1 hF1 hA
  have hZm : Z.natAbs < 4294967296 ^ K := (glim_len (by omega) _ _).1 hk1
  have hdl : (glim 10 Z.natAbs).length ≤ 32 * K + 1 := by
    by_cases hz : Z = 0
    · subst hz; simp [glim_zero]
    · have h1 := glim_ge (b := 10) (by omega) (n := Z.natAbs) (by omega)
      have := len_bound (s := (glim 10 Z.natAbs).length - 1) (N := 1) (M := Z.natAbs) (K := K) (by omega) (by omega) hZm
      omega
  obtain ⟨zn, hzn⟩ : ∃ zn, decide (Z < 0) = zn := ⟨_, rfl⟩
  rw [hzn] at kA2
  have hzn' := hid hzn
  clear hzn
  go_loopg [3, 4] (glim 10 Z.natAbs).length (fun t sv dv wr => ∃ (ds : List Nat) (m : Nat) (o : Option Addr) (c : Nat), t = (glim 10 m).length ∧ sv = .string ⟨(dtx ds).toArray⟩ ∧ dv = .slice o (glim 4294967296 m).length c ∧ Lies o (glim 4294967296 m) wr ∧ (glim 4294967296 m).length ≤ K ∧ Hid (glim 10 Z.natAbs = ds ++ glim 10 m) ∧ Box w.heap.size (.bool zn) (.slice o1 (glim 4294967296 Z.natAbs).length c1) wr ∧ w.heap.size < wr.heap.size ∧ Below w.heap.size w wr)
  case atStart => exact ⟨[], Z.natAbs, o1, c1, rfl, rfl, rfl, L2, hk1, hid (by simp), kA2, hg2, hB2⟩
  case round =>
    obtain ⟨ds, m, o, c, ht, rfl, rfl, hL, hkm, hH, kA, hg, hbw⟩ := hrel
    clear kA2 hg2 hB2 L2
    obtain ⟨f1, f2, f3, f4⟩ := id kA
    have hdsl : ds.length ≤ 32 * K + 1 := by
      have := congrArg List.length hH.out
      rw [List.length_append] at this
      omega
    by_cases hm : 0 < m
    · have hlz : (0 : Int) < ((glim 4294967296 m).length : Int) := by
        have := List.length_pos_iff.2 (glim_ne (b := 4294967296) (n := m) (by omega) (by omega))
        omega
      have hgm := gval_glim (b := 4294967296) (by omega) m
      have hsh := fun w' hw' => short_w o c 10 (glim 4294967296 m) w' (by omega) (by omega) (lm_glim (by omega) m) (by omega) hw'
      rw [hgm] at hsh
      have hsh' := hid hsh
      have hgs := glim_step hm
      have hgs' := hid hgs
      clear hgm hsh hgs
      go_wp2_with fail
      refine (hsh'.out _ hL).mono ?_
      rintro e w3 ⟨sl, rfl, hF3, b3⟩
      obtain ⟨o3, c3, rfl, L3, z3, _⟩ := hF3.parts
      obtain ⟨r, hr⟩ : ∃ r, m % 10 = r := ⟨_, rfl⟩
      rw [hr]
      have hr10 : r < 10 := by omega
      have hr' := hid hr
      clear hr
      go_wp2_with fail
      refine (digits10_w r hr10 _).mono ?_
      rintro e w4 ⟨rfl, b4⟩
      obtain ⟨ch, hch⟩ : ∃ ch, UInt8.ofNat (48 + r) = ch := ⟨_, rfl⟩
      rw [hch]
      have hch' := hid hch
      clear hch
      have b34 := below_and b3 (Nat.le_refl _) b4
      have hcl : ¬ 9223372036854775807 < 1 + (dtx ds).length := by rw [dtx_len]; omega
      go_wp2
      go_roundg (gk - 1)
      case measure =>
        rw [ht, hgs'.out]; simp
      case rel =>
        refine ⟨ds ++ [r], m / 10, o3, c3, ?_, ?_, rfl, L3.below b4, ?_, hid ?_, kA.below b34 hg, Nat.lt_of_lt_of_le hg b34.size, below_and hbw (Nat.le_refl _) b34⟩
        · rw [ht, hgs'.out]; simp
        · rw [dtx_snoc, hch'.out, app_mk]; simp
        · refine Nat.le_trans (Nat.le_of_not_lt fun h => ?_) hkm
          have := glim_len_lt (by omega) h
          omega
        · rw [hH.out, hgs'.out, hr'.out]; simp
    · have hm0 : m = 0 := by omega
      subst hm0
      have hds : glim 10 Z.natAbs = ds := by have := hH.out; rwa [glim_zero, List.append_nil] at this
      have hds' := hid hds
      have hl0 : (glim 4294967296 0).length = 0 := by rw [glim_zero]; rfl
      clear hds hH
      by_cases hZ0 : Z = 0
      · have hd0 : ds = [] := by rw [← hds'.out, hZ0]; simp [glim_zero]
        have hz0 : zn = false := by rw [← hzn'.out, hZ0]; rfl
        have hTe : T = [48] := by rw [← hT'.out, hZ0]; simp [txt, txtN]
        subst hd0 hz0 hTe
        clear hT' hds' hzn'
        go_wp2
        go_ret
        exact ⟨by first | rfl | simp, hbw⟩
      · have hTe := txt_pos hZ0
        rw [hT'.out, hds'.out] at hTe
        have hdn : ds ≠ [] := by rw [← hds'.out]; exact glim_ne (by omega) (by omega)
        obtain ⟨D, hD⟩ : ∃ D, dtx ds = D := ⟨_, rfl⟩
        have hDl : D.length = ds.length := by rw [← hD, dtx_len]
        have hDn : D ≠ [] := by intro e; rw [e] at hDl; exact hdn (List.eq_nil_of_length_eq_zero hDl.symm)
        rw [hD] at hTe ⊢
        have hDe : D.isEmpty = false := by cases D with
          | nil => exact absurd rfl hDn
          | cons _ _ => rfl
        clear hDn
        cases hzb : zn with
        | false =>
          rw [hzb] at f1 kA hzn'
          have hnz : ¬ Z < 0 := by have := hzn'.out; simpa using this
          rw [if_neg hnz, List.nil_append] at hTe
          subst hTe
          clear hT' hds' hzn' hD
          go_wp2
          go_ret
          exact ⟨rfl, hbw⟩
        | true =>
          rw [hzb] at f1 kA hzn'
          have hnz : Z < 0 := by have := hzn'.out; simpa using this
          rw [if_pos hnz] at hTe
          have hTe' := hid hTe
          clear hT' hds' hzn' hD hTe
          have hcl : ¬ 9223372036854775807 < 1 + D.length := by omega
          go_wp2
          go_ret
          exact ⟨by rw [hTe'.out, app_mk]; simp, hbw⟩
end Go.Proofs.YtjacoodfhkaioaaGreatDoor
