/- Texts of mine, one behind the other: TextRd9, TextRdA, OrdLess, OrdMath, OrdCT, OrdRB. -/
import Derived.Test.YtjacoodfhkaioaaGreatDoorChO
import Derived.Test.YtjacoodfhkaioaaGreatDoorChJ
import Derived.Test.YtjacoodfhkaioaaGreatDoorChH
import Derived.Lib.RuneCountTail
import Derived.Laws.IdiomStrings
import Derived.Deep.QuietTactic
import Derived.BigQuiet
import Derived.Deep.OwnRows
import Derived.Test.YtjacoodfhkaioaaGreatDoorChI
namespace Go.Proofs.YtjacoodfhkaioaaGreatDoor
open Go.ChangeShapes Go.WideShapes Go.ChangeAt Go.RowKit Go.Shelf
set_option linter.unusedSimpArgs false
set_option linter.unusedVariables false
set_option maxRecDepth 2000

/-- what begins: a term that is whole (or none), or a row that ends with this sign -/
inductive Bg where
  | lf (o : Option Tm)
  | rw (c : UInt8)
def BgV (B : Nat) (a : Bg) (v : Value) (w : World) : Prop :=
  match a with
  | .lf o => LeafV B o v w
  | .rw c => ∃ b, v = .iface 69 (.pointer (some ⟨b, 0, none⟩)) ∧ B ≤ b ∧ w.heap[b]? = some (.cells #[.int .i32 (c.toNat : Int), .slice none 0 0, .bool false] 109 (0, 0))
def opL (c : UInt8) (T : Tm) (r : List UInt8) : Bg × List UInt8 := if skB c r then (.lf (some T), skR c r) else (.rw c, r)
theorem tv_bare {Z Z' : Nat → Prop} {w w' : World} {k : Int} {neg : Bool} {nm : ByteArray} {n : Int} {v : Value} (h : TV Z w (.mk k neg [] nm n [] []) v) : TV Z' w' (.mk k neg [] nm n [] []) v := by
  unfold TV at h ⊢
  obtain ⟨od, cd, ol, cl, ob, cb, rfl, h1, h2, h3, h4, h5, h6, h7⟩ := h
  exact ⟨od, cd, ol, cl, ob, cb, rfl, Ls.nil _ _ _, h2, h3, LsB.nil _ _ _, h5, h6, by unfold TR; trivial⟩
set_option maxHeartbeats 2000000 in
theorem opened_w (B : Nat) (g : Nat) (r : List UInt8) (ov : Value) (c : UInt8) (k : Int) (hk : k = (c.toNat : Int)) (hc : c.toNat < 128) (K : Int) (neg : Bool) (nm : ByteArray) (n : Int) (x : Value) (w : World) (h : Rdr g r ov w) (hT : Tabs w) (hB : B ≤ w.heap.size) (hx : TV (Low w) w (.mk K neg [] nm n [] []) x) :
    Calls Tryz.prog 62 #[.pointer (some ⟨g, 0, none⟩), .int .i32 k, x] w fun e w' => ∃ v, e = .returned v ∧ BgV B (opL c (.mk K neg [] nm n [] []) r).1 v w' ∧ Rdr g (opL c (.mk K neg [] nm n [] []) r).2 ov w' ∧ Kpt (fun b => b = g) w w' := by
  subst hk
  obtain ⟨K', neg', od, ld, cd, nm', n', ol, ll, cl, ob, lb, cb, rfl⟩ := hx.form
  obtain ⟨W, hW⟩ : ∃ W, W = w.alloc (.cells #[.int .i64 K', .bool neg', .slice od ld cd, .string nm', .int .i64 n', .slice ol ll cl, .slice ob lb cb] 27) := ⟨_, rfl⟩
  have bW : Below w.heap.size w W := by rw [hW]; exact (Below.refl _ w).alloc (Nat.le_refl _) _
  have hgW : W.heap[w.heap.size]? = some (.cells #[.int .i64 K', .bool neg', .slice od ld cd, .string nm', .int .i64 n', .slice ol ll cl, .slice ob lb cb] 27 (0, 0)) := by rw [hW]; exact heap_alloc_new w _
  have hszW : W.heap.size = w.heap.size + 1 := by rw [hW]; simp
  have c1 := skip_w g r ov c _ rfl hc W (h.below bW) (hT.below bW)
  have hglH := hid h.lt
  have hszH := hid hszW
  have hgWH := hid hgW
  have hxH := hid hx
  unfold opL
  obtain ⟨s1, hs1⟩ : ∃ s1, skB c r = s1 := ⟨_, rfl⟩
  obtain ⟨q1, hq1⟩ : ∃ q1, skR c r = q1 := ⟨_, rfl⟩
  have hqq : Hid (s1 = false → q1 = r) := hid (fun e => by rw [← hq1]; exact skR_no (by rw [hs1, e]))
  rw [hs1, hq1] at c1
  rw [hs1, hq1]
  clear hs1 hq1 h hT hgW hszW hx
  unfold tmV
  go_enter Tryz.func62, Tryz.ntmps62
  go_upto_region 1 with fail
  rw [← hW]
  clear hW
  go_wp2_with fail
  refine c1.mono ?_
  rintro e w1 ⟨rfl, h1, k1⟩
  have kk1 : Hid (Kpt (fun b => b = g) w w1) := hid ((Kpt.of_below bW).trans k1)
  have hg1 : w1.heap[w.heap.size]? = some (.cells #[.int .i64 K', .bool neg', .slice od ld cd, .string nm', .int .i64 n', .slice ol ll cl, .slice ob lb cb] 27 (0, 0)) := (k1.block _ (by rw [hszH.out]; omega) (fun e => by have := hglH.out; omega)).trans hgWH.out
  obtain ⟨y0, y1, y2, y3, y4, y5, y6⟩ := cell7 hg1
  have h1H := hid h1
  have hz1 := hid kk1.out.size
  clear c1 h1 k1 hg1
  cases s1 with
  | true =>
    go_wp2
    go_ret
    exact ⟨_, rfl, ⟨_, rfl, tv_bare hxH.out⟩, h1H.out, kk1.out⟩
  | false =>
    have hqr := hqq.out rfl
    subst hqr
    go_wp2
    go_ret
    refine ⟨_, rfl, ⟨w1.heap.size, rfl, Nat.le_trans hB hz1.out, heap_alloc_new w1 _⟩, h1H.out.below ((Below.refl _ _).alloc (Nat.le_refl _) _), kk1.out.trans (Kpt.of_below ((Below.refl _ _).alloc (Nat.le_refl _) _))⟩
theorem look_dig (r : List UInt8) : digX (Lib.decodeGo (bs r)).1 = (match r with | [] => false | b :: _ => digB b) := by
  cases r with
  | nil => rw [decGo_nil]; rfl
  | cons b t =>
    rw [decGo_cons]
    have h := (dec_at (r := b :: t) (pos := 0) (b := b) rfl).1
    rw [← Lib.decodeL_drop, bs_list] at h
    exact h
set_option maxHeartbeats 1000000 in
theorem look_w (g : Nat) (r : List UInt8) (ov : Value) (w : World) (h : Rdr g r ov w) (hT : Tabs w) :
    Calls Tryz.prog 70 #[.pointer (some ⟨g, 0, none⟩)] w fun e w' => e = .returned (.int .i32 ((Lib.decodeGo (bs r)).1 : Int)) ∧ Below w.heap.size w w' := by
  have c1 := decodeRune_w (bs r) w hT
  obtain ⟨x, hx⟩ : ∃ x, (Lib.decodeGo (bs r)).1 = x := ⟨_, rfl⟩
  obtain ⟨n, hn⟩ : ∃ n, (Lib.decodeGo (bs r)).2 = n := ⟨_, rfl⟩
  rw [hx, hn] at c1
  rw [hx]
  clear hx hn
  obtain ⟨y0, y1, f0, f1⟩ := h.cells
  clear h hT
  go_enter Tryz.func70, Tryz.ntmps70
  go_wp2_with fail
  refine c1.mono ?_
  rintro e w1 ⟨rfl, b1⟩
  go_wp2
  go_ret
  exact ⟨rfl, b1⟩
end Go.Proofs.YtjacoodfhkaioaaGreatDoor
namespace Go.Proofs.YtjacoodfhkaioaaGreatDoor
open Go.ChangeShapes Go.WideShapes Go.ChangeAt Go.RowKit Go.Shelf
set_option linter.unusedSimpArgs false
set_option linter.unusedVariables false
set_option maxRecDepth 2000

def lfL (p : Option Tm × List UInt8) : Bg × List UInt8 := (.lf p.1, p.2)
def digH (r : List UInt8) : Bool := match r with | [] => false | b :: _ => digB b
theorem look_dig2 (r : List UInt8) : digX (Lib.decodeGo (bs r)).1 = digH r := by rw [look_dig]; cases r <;> rfl
def beginL (r : List UInt8) : Bg × List UInt8 :=
  if skB 91 r then opL 93 nilT (skR 91 r)
  else if skB 123 r then opL 125 (tupT []) (skR 123 r)
  else if skB 60 r then (if skB 60 (skR 60 r) then lfL (binL (skR 60 (skR 60 r))) else lfL (pidL (skR 60 r)))
  else if skB 35 r then lfL (refL (skR 35 r))
  else if skB 45 r then lfL (intL [45] (skR 45 r))
  else if digH r then lfL (intL [] r) else lfL (nameL r)
theorem LeafV.mono {B B' : Nat} {o : Option Tm} {v : Value} {w : World} (h : LeafV B o v w) (hB : B' ≤ B) : LeafV B' o v w := by
  cases o with
  | none => exact h
  | some T =>
    obtain ⟨x, rfl, hT⟩ := h
    exact ⟨x, rfl, TV.mono (fun k hk hz => ⟨Nat.le_trans hB hz.1, hz.2⟩) _ _ hT⟩
set_option maxHeartbeats 4000000 in
theorem begin_w (g : Nat) (r : List UInt8) (ov : Value) (w0 : World) (hr : r.length ≤ 900000) (h : Rdr g r ov w0) (h00 : ∀ b, r[0]? = some b → stB b.toNat = true) (hg : ∀ w', Kpt (fun b => b = g) w0 w' → TabsQ w') :
    Calls Tryz.prog 34 #[.pointer (some ⟨g, 0, none⟩)] w0 fun e w' => ∃ v, e = .returned v ∧ BgV w0.heap.size (beginL r).1 v w' ∧ Rdr g (beginL r).2 ov w' ∧ Kpt (fun b => b = g) w0 w' := by
  obtain ⟨R, hR⟩ : ∃ R, beginL r = R := ⟨_, rfl⟩
  rw [hR]
  have hRH := hid hR
  clear hR
  have h0 := hid h
  have k0 := hid (Kpt.refl (fun b => b = g) w0)
  clear h
  go_enter Tryz.func34, Tryz.ntmps34
  have h00H := hid h00
  clear h00
  cases s91 : skB 91 r with
  | true =>
    have c91 := skip_w g r ov 91 91 rfl (by decide) w0 h0.out (hg _ k0.out).1
    rw [s91] at c91
    have s91H := hid s91
    clear s91
    obtain ⟨q, hq⟩ : ∃ q, skR 91 r = q := ⟨_, rfl⟩
    have hql : q.length ≤ r.length := by rw [← hq]; exact skR_le _ _
    rw [hq] at c91
    have hqH := hid hq
    clear hq
    go_wp2_with fail
    refine c91.mono ?_
    rintro e wy ⟨rfl, h', k'⟩
    have hy := hid h'
    have ky := hid (k0.out.trans k')
    clear h' k' c91
    have c2 := Nil_w wy
    go_wp2_with fail
    refine c2.mono ?_
    rintro e wz ⟨rfl, bz⟩
    have kz := hid (ky.out.trans (Kpt.of_below bz))
    have hz := hid (hy.out.below bz)
    have cl := opened_w w0.heap.size g q ov 93 93 rfl (by decide) 5 false noS 0 (tmV 5 false nilS noS 0 nilS nilS) wz hz.out (hg _ kz.out).1 kz.out.size (tv_flat 5 noS 0)
    have hRq : Hid (opL 93 nilT q = R) := hid (by rw [← hRH.out]; unfold beginL; rw [s91H.out, if_pos rfl, hqH.out])
    rw [show (Tm.mk 5 false [] noS 0 [] []) = nilT from rfl] at cl
    clear c2 bz
    go_wp2_with fail
    refine cl.mono ?_
    rintro e w9 ⟨v9, rfl, h91', h92', h93'⟩
    have hl1 := hid h91'
    have hl2 := hid h92'
    have hl3 := hid (kz.out.trans h93')
    clear cl h91' h92' h93'
    go_wp2
    go_ret
    rw [← hRq.out]
    exact ⟨_, rfl, hl1.out, hl2.out, hl3.out⟩
  | false =>
    have c91 := skip_w g r ov 91 91 rfl (by decide) w0 h0.out (hg _ k0.out).1
    rw [s91, skR_no s91] at c91
    have s91H := hid s91
    clear s91
    go_wp2_with fail
    refine c91.mono ?_
    rintro e w1 ⟨rfl, h', k'⟩
    have h1 := hid h'
    have k1 := hid (k0.out.trans k')
    clear h' k' c91
    cases s123 : skB 123 r with
    | true =>
      have c123 := skip_w g r ov 123 123 rfl (by decide) w1 h1.out (hg _ k1.out).1
      rw [s123] at c123
      have s123H := hid s123
      clear s123
      obtain ⟨q, hq⟩ : ∃ q, skR 123 r = q := ⟨_, rfl⟩
      have hql : q.length ≤ r.length := by rw [← hq]; exact skR_le _ _
      rw [hq] at c123
      have hqH := hid hq
      clear hq
      go_wp2_with fail
      refine c123.mono ?_
      rintro e wy ⟨rfl, h', k'⟩
      have hy := hid h'
      have ky := hid (k1.out.trans k')
      clear h' k' c123
      have c2 := Tuple_w [] none 0 wy (by simp) (by simp [partsL]) (by simp) (by intro p hp; simp [partsL] at hp) (by unfold TR; trivial)
      go_wp2_with fail
      refine c2.mono ?_
      rintro e wz ⟨vz, rfl, hTz, bz⟩
      have kz := hid (ky.out.trans (Kpt.of_below bz))
      have hz := hid (hy.out.below bz)
      have cl := opened_w w0.heap.size g q ov 125 125 rfl (by decide) 4 false noS 0 vz wz hz.out (hg _ kz.out).1 kz.out.size (tv_low hTz)
      have hRq : Hid (opL 125 (tupT []) q = R) := hid (by rw [← hRH.out]; unfold beginL; rw [s91H.out, s123H.out, if_neg (by simp), if_pos rfl, hqH.out])
      rw [show (Tm.mk 4 false [] noS 0 [] []) = tupT [] from rfl] at cl
      clear c2 bz hTz
      go_wp2_with fail
      refine cl.mono ?_
      rintro e w9 ⟨v9, rfl, h91', h92', h93'⟩
      have hl1 := hid h91'
      have hl2 := hid h92'
      have hl3 := hid (kz.out.trans h93')
      clear cl h91' h92' h93'
      go_wp2
      go_ret
      rw [← hRq.out]
      exact ⟨_, rfl, hl1.out, hl2.out, hl3.out⟩
    | false =>
      have c123 := skip_w g r ov 123 123 rfl (by decide) w1 h1.out (hg _ k1.out).1
      rw [s123, skR_no s123] at c123
      have s123H := hid s123
      clear s123
      go_wp2_with fail
      refine c123.mono ?_
      rintro e w2 ⟨rfl, h', k'⟩
      have h2 := hid h'
      have k2 := hid (k1.out.trans k')
      clear h' k' c123
      cases s60 : skB 60 r with
      | true =>
        have c60 := skip_w g r ov 60 60 rfl (by decide) w2 h2.out (hg _ k2.out).1
        rw [s60] at c60
        have s60H := hid s60
        clear s60
        obtain ⟨q, hq⟩ : ∃ q, skR 60 r = q := ⟨_, rfl⟩
        have hql : q.length ≤ r.length := by rw [← hq]; exact skR_le _ _
        rw [hq] at c60
        have hqH := hid hq
        clear hq
        go_wp2_with fail
        refine c60.mono ?_
        rintro e wy ⟨rfl, h', k'⟩
        have hy := hid h'
        have ky := hid (k2.out.trans k')
        clear h' k' c60
        have c60 := skip_w g q ov 60 60 rfl (by decide) wy hy.out (hg _ ky.out).1
        cases s60b : skB 60 q with
        | true =>
          obtain ⟨q2, hq2⟩ : ∃ q2, skR 60 q = q2 := ⟨_, rfl⟩
          have hql2 : q2.length ≤ q.length := by rw [← hq2]; exact skR_le _ _
          rw [s60b, hq2] at c60
          have hRq : Hid (lfL (binL q2) = R) := hid (by rw [← hRH.out]; unfold beginL; rw [s91H.out, s123H.out, s60H.out, if_neg (by simp), if_neg (by simp), if_pos rfl, hqH.out, s60b, if_pos rfl, hq2])
          clear s60b hq2
          go_wp2_with fail
          refine c60.mono ?_
          rintro e wz ⟨rfl, h', k'⟩
          have hz := hid h'
          have kz := hid (ky.out.trans k')
          have cl := bin_w g q2 ov wz (by omega) h' (fun w' kw => (hg _ (kz.out.trans kw)).1)
          clear h' k' c60
          go_wp2_with fail
          refine cl.mono ?_
          rintro e w9 ⟨v9, rfl, h91', h92', h93'⟩
          have hl1 := hid (h91'.mono kz.out.size)
          have hl2 := hid h92'
          have hl3 := hid (kz.out.trans h93')
          clear cl h91' h92' h93'
          go_wp2
          go_ret
          rw [← hRq.out]
          exact ⟨_, rfl, hl1.out, hl2.out, hl3.out⟩
        | false =>
          rw [s60b, skR_no s60b] at c60
          have hRq : Hid (lfL (pidL q) = R) := hid (by rw [← hRH.out]; unfold beginL; rw [s91H.out, s123H.out, s60H.out, if_neg (by simp), if_neg (by simp), if_pos rfl, hqH.out, s60b, if_neg (by simp)])
          clear s60b
          go_wp2_with fail
          refine c60.mono ?_
          rintro e wz ⟨rfl, h', k'⟩
          have hz := hid h'
          have kz := hid (ky.out.trans k')
          have cl := pid_w g q ov wz (by omega) h' (hg _ kz.out).1 (fun w' kw => (hg _ (kz.out.trans kw)).1)
          clear h' k' c60
          go_wp2_with fail
          refine cl.mono ?_
          rintro e w9 ⟨v9, rfl, h91', h92', h93'⟩
          have hl1 := hid (h91'.mono kz.out.size)
          have hl2 := hid h92'
          have hl3 := hid (kz.out.trans h93')
          clear cl h91' h92' h93'
          go_wp2
          go_ret
          rw [← hRq.out]
          exact ⟨_, rfl, hl1.out, hl2.out, hl3.out⟩
      | false =>
        have c60 := skip_w g r ov 60 60 rfl (by decide) w2 h2.out (hg _ k2.out).1
        rw [s60, skR_no s60] at c60
        have s60H := hid s60
        clear s60
        go_wp2_with fail
        refine c60.mono ?_
        rintro e w3 ⟨rfl, h', k'⟩
        have h3 := hid h'
        have k3 := hid (k2.out.trans k')
        clear h' k' c60
        cases s35 : skB 35 r with
        | true =>
          have c35 := skip_w g r ov 35 35 rfl (by decide) w3 h3.out (hg _ k3.out).1
          rw [s35] at c35
          have s35H := hid s35
          clear s35
          obtain ⟨q, hq⟩ : ∃ q, skR 35 r = q := ⟨_, rfl⟩
          have hql : q.length ≤ r.length := by rw [← hq]; exact skR_le _ _
          rw [hq] at c35
          have hqH := hid hq
          clear hq
          go_wp2_with fail
          refine c35.mono ?_
          rintro e wy ⟨rfl, h', k'⟩
          have hy := hid h'
          have ky := hid (k3.out.trans k')
          clear h' k' c35
          have hRq : Hid (lfL (refL q) = R) := hid (by rw [← hRH.out]; unfold beginL; rw [s91H.out, s123H.out, s60H.out, s35H.out, if_neg (by simp), if_neg (by simp), if_neg (by simp), if_pos rfl, hqH.out])
          have cl := ref_w g q ov wy (by omega) hy.out
          go_wp2_with fail
          refine cl.mono ?_
          rintro e w9 ⟨v9, rfl, h91', h92', h93'⟩
          have hl1 := hid (h91'.mono ky.out.size)
          have hl2 := hid h92'
          have hl3 := hid (ky.out.trans h93')
          clear cl h91' h92' h93'
          go_wp2
          go_ret
          rw [← hRq.out]
          exact ⟨_, rfl, hl1.out, hl2.out, hl3.out⟩
        | false =>
          have c35 := skip_w g r ov 35 35 rfl (by decide) w3 h3.out (hg _ k3.out).1
          rw [s35, skR_no s35] at c35
          have s35H := hid s35
          clear s35
          go_wp2_with fail
          refine c35.mono ?_
          rintro e w4 ⟨rfl, h', k'⟩
          have h4 := hid h'
          have k4 := hid (k3.out.trans k')
          clear h' k' c35
          cases s45 : skB 45 r with
          | true =>
            have c45 := skip_w g r ov 45 45 rfl (by decide) w4 h4.out (hg _ k4.out).1
            rw [s45] at c45
            have s45H := hid s45
            clear s45
            obtain ⟨q, hq⟩ : ∃ q, skR 45 r = q := ⟨_, rfl⟩
            have hql : q.length ≤ r.length := by rw [← hq]; exact skR_le _ _
            rw [hq] at c45
            have hqH := hid hq
            clear hq
            go_wp2_with fail
            refine c45.mono ?_
            rintro e wy ⟨rfl, h', k'⟩
            have hy := hid h'
            have ky := hid (k4.out.trans k')
            clear h' k' c45
            have hRq : Hid (lfL (intL [45] q) = R) := hid (by rw [← hRH.out]; unfold beginL; rw [s91H.out, s123H.out, s60H.out, s35H.out, s45H.out, if_neg (by simp), if_neg (by simp), if_neg (by simp), if_neg (by simp), if_pos rfl, hqH.out])
            have cl := rdint_w g [45] q ⟨#[45]⟩ rfl ov wy (by simp) (by omega) hy.out
            go_wp2_with fail
            refine cl.mono ?_
            rintro e w9 ⟨v9, rfl, h91', h92', h93'⟩
            have hl1 := hid (h91'.mono ky.out.size)
            have hl2 := hid h92'
            have hl3 := hid (ky.out.trans h93')
            clear cl h91' h92' h93'
            go_wp2
            go_ret
            rw [← hRq.out]
            exact ⟨_, rfl, hl1.out, hl2.out, hl3.out⟩
          | false =>
            have c45 := skip_w g r ov 45 45 rfl (by decide) w4 h4.out (hg _ k4.out).1
            rw [s45, skR_no s45] at c45
            have s45H := hid s45
            clear s45
            go_wp2_with fail
            refine c45.mono ?_
            rintro e w5 ⟨rfl, h', k'⟩
            have h5 := hid h'
            have k5 := hid (k4.out.trans k')
            clear h' k' c45
            have c2 := look_w g r ov w5 h5.out (hg _ k5.out).1
            go_wp2_with fail
            refine c2.mono ?_
            rintro e wl ⟨rfl, bl⟩
            have c3 := tdigit_w (Lib.decodeGo (bs r)).1 wl
            rw [look_dig2] at c3
            have kl := hid (k5.out.trans (Kpt.of_below bl))
            have hl := hid (h5.out.below bl)
            clear c2 bl
            obtain ⟨sd, hsd⟩ : ∃ sd, digH r = sd := ⟨_, rfl⟩
            rw [hsd] at c3
            go_wp2_with fail
            refine c3.mono ?_
            rintro e w9 ⟨rfl, rfl⟩
            clear c3
            cases sd with
            | true =>
              have hRq : Hid (lfL (intL [] r) = R) := hid (by rw [← hRH.out]; unfold beginL; rw [s91H.out, s123H.out, s60H.out, s35H.out, s45H.out, hsd, if_neg (by simp), if_neg (by simp), if_neg (by simp), if_neg (by simp), if_neg (by simp), if_pos rfl])
              clear hsd
              have cl := rdint_w g [] r ⟨#[]⟩ rfl ov w9 (by simp) (by omega) hl.out
              go_wp2_with fail
              refine cl.mono ?_
              rintro e w8 ⟨v9, rfl, h91', h92', h93'⟩
              have hl1 := hid (h91'.mono kl.out.size)
              have hl2 := hid h92'
              have hl3 := hid (kl.out.trans h93')
              clear cl h91' h92' h93'
              go_wp2
              go_ret
              rw [← hRq.out]
              exact ⟨_, rfl, hl1.out, hl2.out, hl3.out⟩
            | false =>
              have hRq : Hid (lfL (nameL r) = R) := hid (by rw [← hRH.out]; unfold beginL; rw [s91H.out, s123H.out, s60H.out, s35H.out, s45H.out, hsd, if_neg (by simp), if_neg (by simp), if_neg (by simp), if_neg (by simp), if_neg (by simp), if_neg (by simp)])
              clear hsd
              have cl := name_w g r ov w9 (by omega) hl.out h00H.out (hg _ kl.out)
              go_wp2_with fail
              refine cl.mono ?_
              rintro e w8 ⟨v9, rfl, h91', h92', h93'⟩
              have hl1 := hid (h91'.mono kl.out.size)
              have hl2 := hid h92'
              have hl3 := hid (kl.out.trans h93')
              clear cl h91' h92' h93'
              go_wp2
              go_ret
              rw [← hRq.out]
              exact ⟨_, rfl, hl1.out, hl2.out, hl3.out⟩
end Go.Proofs.YtjacoodfhkaioaaGreatDoor
namespace Go.Proofs.YtjacoodfhkaioaaGreatDoor
open Go.ChangeShapes Go.WideShapes Go.ChangeAt Go.RowKit Go.Shelf
set_option linter.unusedSimpArgs false
set_option linter.unusedVariables false
set_option maxRecDepth 2000
theorem lt_of_heap_o {w : World} {b : Nat} {x : Obj} (h : w.heap[b]? = some x) : b < w.heap.size := (Array.getElem?_eq_some_iff.1 h).1
def lexZ_o : List Nat → List Nat → Int
  | [], [] => 0
  | [], _ :: _ => -1
  | _ :: _, [] => 1
  | x :: xs, y :: ys => if x = y then lexZ_o xs ys else cmpZ (x : Int) (y : Int)
def lessZ_o (a b : List UInt8) : Int := if Lib.validD a && Lib.validD b then lexZ_o (sg a) (sg b) else Lib.compareBytes a b

/-- A well-formed text at a place: the sign, its width, and what follows is well-formed. -/
theorem valid_at_o (s : ByteArray) (pos : Nat) (h : pos < s.size) (hv : Lib.validD (s.data.toList.drop pos) = true) :
    Lib.validD (s.data.toList.drop (pos + (Utf8.decode s pos).2)) = true ∧ (e1 (Utf8.decode s pos).1).length = (Utf8.decode s pos).2 ∧ pos + (Utf8.decode s pos).2 ≤ s.size := by
  have hs : s.data.toList.length = s.size := rfl
  have hne : s.data.toList.drop pos ≠ [] := by
    intro e; have := congrArg List.length e; simp only [List.length_drop, List.length_nil] at this; omega
  have hle := Lib.decodeL_le _ hne
  rw [Lib.validD_step _ hne] at hv
  split at hv
  · cases hv
  · rename_i hb
    have he := Lib.encode_decode _ hne hb
    rw [Lib.decodeL_drop] at hv he hle
    rw [List.drop_drop] at hv
    refine ⟨hv, ?_, ?_⟩
    · unfold e1
      rw [he, List.length_take]
      omega
    · rw [List.length_drop] at hle; omega
theorem decodeGo_tail_o (s : ByteArray) (pos : Nat) (h : pos < s.size) : Lib.decodeGo (s.extract pos s.size) = Utf8.decode s pos := by
  unfold Lib.decodeGo
  rw [Lib.tail_size, if_neg (by omega), Lib.tail_decode, Nat.add_zero]

theorem order_q_o (x y : Int) (w : World) :
    Calls Tryz.prog 56 #[.int .i64 x, .int .i64 y] w fun e w' => e = .returned (.int .i64 (cmpZ x y)) ∧ w' = w := order_w x y w
/-- A row of bytes in memory. -/
def RowB_o (g : Nat) (l : List UInt8) (w : World) : Prop := ∀ j x, l[j]? = some x → w.cell? ⟨g, j, none⟩ = some (.int .u8 (x.toNat : Int))
/-- A row of signs in memory. -/
def RowR_o (g : Nat) (l : List Nat) (w : World) : Prop := ∀ (j r : Nat), l[j]? = some r → w.cell? ⟨g, j, none⟩ = some (.int .i32 (r : Int))
theorem RowB_o.below {g : Nat} {l : List UInt8} {w w' : World} (h : RowB_o g l w) (hb : Below w.heap.size w w') : RowB_o g l w' := fun j x hx =>
  (hb.cell (World.block_lt_of_cell? _ _ (h j x hx))).trans (h j x hx)
theorem RowR_o.below {g : Nat} {l : List Nat} {w w' : World} (h : RowR_o g l w) (hb : Below w.heap.size w w') : RowR_o g l w' := fun j x hx =>
  (hb.cell (World.block_lt_of_cell? _ _ (h j x hx))).trans (h j x hx)

theorem cmp_step_o (x y : UInt8) (s t : List UInt8) (h : x ≠ y) : Lib.compareBytes (x :: s) (y :: t) = cmpZ (x.toNat : Int) (y.toNat : Int) := by
  unfold Lib.compareBytes cmpZ
  simp only [UInt8.lt_iff_toNat_lt]
  have : x.toNat ≠ y.toNat := fun e => h (UInt8.toNat_inj.1 e)
  by_cases h1 : x.toNat < y.toNat
  · rw [if_pos h1, if_pos (by omega)]
  · rw [if_neg h1, if_pos (by omega), if_neg (by omega), if_pos (by omega)]
theorem cmp_same_o (x : UInt8) (s t : List UInt8) : Lib.compareBytes (x :: s) (x :: t) = Lib.compareBytes s t := by
  rw [Lib.compareBytes]; simp [UInt8.lt_iff_toNat_lt]

set_option maxHeartbeats 2000000 in
theorem bytewise_w_o (ga gb ca cb : Nat) (a b : List UInt8) (w : World) (ha : a.length ≤ 1000000) (hb : b.length ≤ 1000000) (hra : RowB_o ga a w) (hrb : RowB_o gb b w) :
    Calls Tryz.prog 59 #[.slice (some ⟨ga, 0, none⟩) a.length ca, .slice (some ⟨gb, 0, none⟩) b.length cb] w fun e w' => e = .returned (.int .i64 (Lib.compareBytes a b)) ∧ Below w.heap.size w w' := by
  obtain ⟨R, hR⟩ : ∃ R, Lib.compareBytes a b = R := ⟨_, rfl⟩
  rw [hR]
  go_enter Tryz.func59, Tryz.ntmps59
  go_wp2
  go_loopw [5] (fun i wr => ∃ k : Nat, i = .int .i64 (k : Int) ∧ k ≤ a.length ∧ k ≤ b.length ∧ Below w.heap.size w wr ∧ Hid (Lib.compareBytes (a.drop k) (b.drop k) = R)) (fun i _ => a.length - (intOf i).toNat)
  case atStart => exact ⟨0, rfl, by omega, by omega, Below.refl _ _, hid (by simpa using hR)⟩
  case round =>
    obtain ⟨k, rfl, hka, hkb, hbw, hH⟩ := hrel
    clear hR
    have ra := hra.below hbw
    have rb := hrb.below hbw
    by_cases h1 : k < a.length
    · have h1z : (k : Int) < (a.length : Int) := by omega
      by_cases h2 : k < b.length
      · have h2z : (k : Int) < (b.length : Int) := by omega
        obtain ⟨x, hx⟩ : ∃ x, a[k]? = some x := ⟨a[k], by simp [h1]⟩
        obtain ⟨y, hy⟩ : ∃ y, b[k]? = some y := ⟨b[k], by simp [h2]⟩
        have cx := ra k x hx
        have cy := rb k y hy
        have da : Hid (a.drop k = x :: a.drop (k + 1)) := hid (by rw [List.drop_eq_getElem_cons h1]; congr 1; simpa [h1] using hx)
        have db : Hid (b.drop k = y :: b.drop (k + 1)) := hid (by rw [List.drop_eq_getElem_cons h2]; congr 1; simpa [h2] using hy)
        clear ra rb
        by_cases hxy : x = y
        · subst hxy
          go_wp2
          go_quiet (fail)
          go_wp2
          go_roundw
          case rel =>
            refine ⟨k + 1, by go_num, by omega, by omega, below_drewNv hbw _, hid ?_⟩
            rw [← hH.out, da.out, db.out, cmp_same_o]
          case measure => simp [intOf]; omega
        · have hxz : ((x.toNat : Int) == (y.toNat : Int)) = false := by
            simp only [beq_eq_false_iff_ne, ne_eq]
            intro e; exact hxy (UInt8.toNat_inj.1 (by omega))
          have hwx : IntKind.i64.wrap (x.toNat : Int) = (x.toNat : Int) := by have := x.toNat_lt; rw [IntKind.wrap_i64]; omega
          have hwy : IntKind.i64.wrap (y.toNat : Int) = (y.toNat : Int) := by have := y.toNat_lt; rw [IntKind.wrap_i64]; omega
          have hres : R = cmpZ (x.toNat : Int) (y.toNat : Int) := by rw [← hH.out, da.out, db.out, cmp_step_o x y _ _ hxy]
          go_wp2
          go_quiet (fail)
          have hbw' := below_drewNv hbw nq
          have cx' := hra.below hbw' k x hx
          have cy' := hrb.below hbw' k y hy
          clear cx cy hbw
          generalize wr.drewN nq = wq at *
          go_wp2
          go_quiet ((go_at_call 56; exact Calls.quiet_of_same (order_q_o _ _ _)))
          go_wp2
          go_ret
          exact ⟨by rw [hres]; rfl, below_drewNv hbw' _⟩
      · have h2z : ¬ (k : Int) < (b.length : Int) := by omega
        have hres : R = cmpZ (a.length : Int) (b.length : Int) := by
          rw [← hH.out, List.drop_eq_getElem_cons h1, show b.drop k = [] from List.drop_eq_nil_of_le (by omega)]
          unfold cmpZ; rw [if_neg (by omega), if_pos (by omega)]; rfl
        go_wp2_with fail
        refine (order_q_o _ _ _).mono ?_
        rintro e w1 ⟨rfl, rfl⟩
        go_wp2
        go_ret
        exact ⟨by rw [hres]; rfl, hbw⟩
    · have h1z : ¬ (k : Int) < (a.length : Int) := by omega
      have hres : R = cmpZ (a.length : Int) (b.length : Int) := by
        rw [← hH.out, List.drop_eq_nil_of_le (by omega)]
        unfold cmpZ
        by_cases h2 : k < b.length
        · rw [List.drop_eq_getElem_cons h2, if_pos (by omega)]; rfl
        · rw [List.drop_eq_nil_of_le (by omega), if_neg (by omega), if_neg (by omega)]; rfl
      go_wp2_with fail
      refine (order_q_o _ _ _).mono ?_
      rintro e w1 ⟨rfl, rfl⟩
      go_wp2
      go_ret
      exact ⟨by rw [hres]; rfl, hbw⟩

/-! ### texts turned into rows -/
theorem runesFrom_eq_o (s : ByteArray) : ∀ (bound i : Nat) (acc : Array Value), s.size ≤ i + bound → Conv.runesFrom s bound i acc = acc ++ ((sg (s.data.toList.drop i)).map fun (r : Nat) => Value.int .i32 (r : Int)).toArray
  | 0, i, acc, h => by
    rw [Conv.runesFrom, sg_end s i (by omega)]; simp
  | b + 1, i, acc, h => by
    rw [Conv.runesFrom]
    by_cases hp : i < s.size
    · have hw := Lib.width_pos s i
      rw [if_pos hp, sg_at s i hp]
      obtain ⟨⟨r, k⟩, hd⟩ : ∃ d, Utf8.decode s i = d := ⟨_, rfl⟩
      rw [hd] at hw ⊢
      have ih := runesFrom_eq_o s b (i + k) (acc.push (.int .i32 (r : Int))) (by simp only [] at hw; omega)
      simp only [List.map_cons]
      show Conv.runesFrom s b (i + k) (acc.push (.int .i32 (r : Int))) = _
      rw [ih]
      simp
    · rw [if_neg hp, sg_end s i hp]; simp
theorem runes_conv_o (s : ByteArray) (w : World) (hs : s.size ≤ 1000000) :
    ∃ cap W, (convert 9 124 (.string s)).run Tryz.prog w = .ok (.slice (some ⟨w.heap.size, 0, none⟩) (sg s.data.toList).length cap) W ∧ Below w.heap.size w W ∧ RowR_o w.heap.size (sg s.data.toList) W ∧ W.heap.size = w.heap.size + 1 := by
  have e : Conv.runesFrom s s.size 0 #[] = ((sg s.data.toList).map fun (r : Nat) => Value.int .i32 (r : Int)).toArray := by
    rw [runesFrom_eq_o s s.size 0 #[] (by omega)]; simp
  have hle := sg_le s.data.toList
  have hsz : s.data.toList.length = s.size := rfl
  have hr := run_runes_of_string (P := Tryz.prog) w 9 124 21 s Tryz.underlying9 Tryz.underlying124 Tryz.underlying21 (by rw [e]; simp; omega)
  rw [e] at hr
  simp only [List.size_toArray, List.length_map] at hr
  refine ⟨_, _, hr, ((Below.refl _ w).drew).alloc (Nat.le_refl _) _, ?_, by simp⟩
  intro j r hj
  rw [show ∀ o : Obj, (w.drew.alloc o).cell? ⟨w.heap.size, j, none⟩ = (w.drew.alloc o).cell? ⟨w.drew.heap.size, j, none⟩ from fun _ => rfl, Lib.cell_of_heap (Go.heap_alloc_new w.drew _)]
  have hjl : j < (sg s.data.toList).length := (List.getElem?_eq_some_iff.1 hj).1
  rw [Array.getElem?_append_left (by simpa using hjl)]
  simp [hj]
theorem bytes_conv_o (s : ByteArray) (w : World) :
    ∃ cap W, (convert 9 25 (.string s)).run Tryz.prog w = .ok (.slice (some ⟨w.heap.size, 0, none⟩) s.data.toList.length cap) W ∧ Below w.heap.size w W ∧ RowB_o w.heap.size s.data.toList W ∧ W.heap.size = w.heap.size + 1 := by
  have hr := run_bytes_of_string (P := Tryz.prog) w 9 25 5 s Tryz.underlying9 Tryz.underlying25 Tryz.underlying5
  refine ⟨_, _, hr, ((Below.refl _ w).drew).alloc (Nat.le_refl _) _, ?_, by simp⟩
  intro j x hx
  rw [show ∀ o : Obj, (w.drew.alloc o).cell? ⟨w.heap.size, j, none⟩ = (w.drew.alloc o).cell? ⟨w.drew.heap.size, j, none⟩ from fun _ => rfl, Lib.cell_of_heap (Go.heap_alloc_new w.drew _)]
  obtain ⟨hjl, hjx⟩ := List.getElem?_eq_some_iff.1 hx
  rw [bytesRow_at s _ j (by simpa using hjl)]
  subst hjx
  simp

set_option maxHeartbeats 4000000 in
set_option maxRecDepth 8000 in
theorem rless_w_o (a b : ByteArray) (w : World) (ha : a.size ≤ 1000000) (hb : b.size ≤ 1000000) (hT : Tabs w) :
    Calls Tryz.prog 58 #[.string a, .string b] w fun e w' => e = .returned (.int .i64 (lessZ_o a.data.toList b.data.toList)) ∧ Below w.heap.size w w' := by
  obtain ⟨R, hR⟩ : ∃ R, lessZ_o a.data.toList b.data.toList = R := ⟨_, rfl⟩
  rw [hR]
  unfold lessZ_o at hR
  have la := sg_le a.data.toList
  have lb := sg_le b.data.toList
  have za : a.data.toList.length = a.size := rfl
  have zb : b.data.toList.length = b.size := rfl
  cases va : Lib.validD a.data.toList with
  | false =>
    rw [va, Bool.false_and, if_neg (by simp)] at hR
    go_enter Tryz.func58, Tryz.ntmps58
    go_wp2_with fail
    refine (rvalid_w _ _ (by omega) hT).mono ?_
    rintro e w1 ⟨rfl, b1⟩
    obtain ⟨ca, W1, k1, B1, r1, z1⟩ := bytes_conv_o a w1
    obtain ⟨cb, W2, k2, B2, r2, z2⟩ := bytes_conv_o b W1
    have B1' : Below w.heap.size w W1 := b1.trans (below_le B1 b1.size)
    have B2' : Below w.heap.size w W2 := B1'.trans (below_le B2 B1'.size)
    have r1' := r1.below (below_le B2 (Nat.le_refl _))
    have s1 := b1.size
    have r2z : RowB_o (w1.heap.size + 1) b.data.toList W2 := by rw [← z1]; exact r2
    go_wp2_with fail
    refine (bytewise_w_o w1.heap.size (w1.heap.size + 1) ca cb a.data.toList b.data.toList W2 (by omega) (by omega) r1' r2z).mono ?_
    rintro e w3 ⟨rfl, b3⟩
    go_wp2
    go_ret
    exact ⟨by rw [← hR]; rfl, B2'.trans (below_le b3 B2'.size)⟩
  | true =>
    cases vb : Lib.validD b.data.toList with
    | false =>
      rw [va, vb, Bool.and_false, if_neg (by simp)] at hR
      go_enter Tryz.func58, Tryz.ntmps58
      go_wp2_with fail
      refine (rvalid_w _ _ (by omega) hT).mono ?_
      rintro e w0 ⟨rfl, b0⟩
      go_wp2_with fail
      refine (rvalid_w _ _ (by omega) (hT.below b0)).mono ?_
      rintro e w1 ⟨rfl, b1'⟩
      have b1 : Below w.heap.size w w1 := b0.trans (below_le b1' b0.size)
      obtain ⟨ca, W1, k1, B1, r1, z1⟩ := bytes_conv_o a w1
      obtain ⟨cb, W2, k2, B2, r2, z2⟩ := bytes_conv_o b W1
      have B1' : Below w.heap.size w W1 := b1.trans (below_le B1 b1.size)
      have B2' : Below w.heap.size w W2 := B1'.trans (below_le B2 B1'.size)
      have r1' := r1.below (below_le B2 (Nat.le_refl _))
      have s1 := b1.size
      have r2z : RowB_o (w1.heap.size + 1) b.data.toList W2 := by rw [← z1]; exact r2
      go_wp2_with fail
      refine (bytewise_w_o w1.heap.size (w1.heap.size + 1) ca cb a.data.toList b.data.toList W2 (by omega) (by omega) r1' r2z).mono ?_
      rintro e w3 ⟨rfl, b3⟩
      go_wp2
      go_ret
      exact ⟨by rw [← hR]; rfl, B2'.trans (below_le b3 B2'.size)⟩
    | true =>
      rw [va, vb, Bool.and_true, if_pos rfl] at hR
      have hpa : ∀ r ∈ sg a.data.toList, r ≤ 1114111 := fun r hr => by have := okRs_sg a.data.toList r hr; unfold okR at this; omega
      have hpb : ∀ r ∈ sg b.data.toList, r ≤ 1114111 := fun r hr => by have := okRs_sg b.data.toList r hr; unfold okR at this; omega
      go_enter Tryz.func58, Tryz.ntmps58
      go_wp2_with fail
      refine (rvalid_w _ _ (by omega) hT).mono ?_
      rintro e w0 ⟨rfl, b0⟩
      go_wp2_with fail
      refine (rvalid_w _ _ (by omega) (hT.below b0)).mono ?_
      rintro e w1 ⟨rfl, b1'⟩
      have b1 : Below w.heap.size w w1 := b0.trans (below_le b1' b0.size)
      obtain ⟨ca, W1, k1, B1, r1, z1⟩ := runes_conv_o a w1 ha
      obtain ⟨cb, W2, k2, B2, r2, z2⟩ := runes_conv_o b W1 hb
      have B1' : Below w.heap.size w W1 := b1.trans (below_le B1 b1.size)
      have B2' : Below w.heap.size w W2 := B1'.trans (below_le B2 B1'.size)
      have r1' := r1.below (below_le B2 (Nat.le_refl _))
      have s1 := b1.size
      have r2z : RowR_o (w1.heap.size + 1) (sg b.data.toList) W2 := by rw [← z1]; exact r2
      clear r1 r2 B1 B2 b1' b0
      generalize sg a.data.toList = X at *
      generalize sg b.data.toList = Y at *
      go_wp2
      go_loopw [7] (fun i wr => ∃ k : Nat, i = .int .i64 (k : Int) ∧ k ≤ X.length ∧ k ≤ Y.length ∧ Below W2.heap.size W2 wr ∧ Hid (lexZ_o (X.drop k) (Y.drop k) = R)) (fun i _ => X.length - (intOf i).toNat)
      case atStart => exact ⟨0, rfl, by omega, by omega, Below.refl _ _, hid (by simpa using hR)⟩
      case round =>
        obtain ⟨k, rfl, hka, hkb, hbw, hH⟩ := hrel
        clear hR va vb
        have ra := r1'.below hbw
        have rb := r2z.below hbw
        by_cases h1 : k < X.length
        · have h1z : (k : Int) < (X.length : Int) := by omega
          by_cases h2 : k < Y.length
          · have h2z : (k : Int) < (Y.length : Int) := by omega
            obtain ⟨x, hx⟩ : ∃ x, X[k]? = some x := ⟨X[k], by simp [h1]⟩
            obtain ⟨y, hy⟩ : ∃ y, Y[k]? = some y := ⟨Y[k], by simp [h2]⟩
            have cx := ra k x hx
            have cy := rb k y hy
            have mx := hpa x (List.mem_of_getElem? hx)
            have my := hpb y (List.mem_of_getElem? hy)
            have da : Hid (X.drop k = x :: X.drop (k + 1)) := hid (by rw [List.drop_eq_getElem_cons h1]; congr 1; simpa [h1] using hx)
            have db : Hid (Y.drop k = y :: Y.drop (k + 1)) := hid (by rw [List.drop_eq_getElem_cons h2]; congr 1; simpa [h2] using hy)
            clear ra rb
            by_cases hxy : x = y
            · subst hxy
              go_wp2
              go_quiet (fail)
              go_wp2
              go_roundw
              case rel =>
                refine ⟨k + 1, by go_num, by omega, by omega, below_drewNv hbw _, hid ?_⟩
                rw [← hH.out, da.out, db.out, lexZ_o, if_pos rfl]
              case measure => simp [intOf]; omega
            · have hxz : ((x : Int) == (y : Int)) = false := by
                simp only [beq_eq_false_iff_ne, ne_eq]; omega
              have hwx : IntKind.i64.wrap (x : Int) = (x : Int) := by rw [IntKind.wrap_i64]; omega
              have hwy : IntKind.i64.wrap (y : Int) = (y : Int) := by rw [IntKind.wrap_i64]; omega
              have hres : R = cmpZ (x : Int) (y : Int) := by rw [← hH.out, da.out, db.out, lexZ_o, if_neg hxy]
              go_wp2
              go_quiet (fail)
              have hbw' := below_drewNv hbw nq
              have cx' := r1'.below hbw' k x hx
              have cy' := r2z.below hbw' k y hy
              clear cx cy hbw
              generalize wr.drewN nq = wq at *
              go_wp2
              go_quiet ((go_at_call 56; exact Calls.quiet_of_same (order_q_o _ _ _)))
              go_wp2
              go_ret
              exact ⟨by rw [hres]; rfl, B2'.trans (below_le (below_drewNv hbw' _) B2'.size)⟩
          · have h2z : ¬ (k : Int) < (Y.length : Int) := by omega
            have hres : R = cmpZ (X.length : Int) (Y.length : Int) := by
              rw [← hH.out, List.drop_eq_getElem_cons h1, show Y.drop k = [] from List.drop_eq_nil_of_le (by omega)]
              unfold cmpZ; rw [if_neg (by omega), if_pos (by omega)]; rfl
            go_wp2_with fail
            refine (order_q_o _ _ _).mono ?_
            rintro e w1 ⟨rfl, rfl⟩
            go_wp2
            go_ret
            exact ⟨by rw [hres]; rfl, B2'.trans (below_le hbw B2'.size)⟩
        · have h1z : ¬ (k : Int) < (X.length : Int) := by omega
          have hres : R = cmpZ (X.length : Int) (Y.length : Int) := by
            rw [← hH.out, show X.drop k = [] from List.drop_eq_nil_of_le (by omega)]
            unfold cmpZ
            by_cases h2 : k < Y.length
            · rw [List.drop_eq_getElem_cons h2, if_pos (by omega)]; rfl
            · rw [List.drop_eq_nil_of_le (by omega), if_neg (by omega), if_neg (by omega)]; rfl
          go_wp2_with fail
          refine (order_q_o _ _ _).mono ?_
          rintro e w1 ⟨rfl, rfl⟩
          go_wp2
          go_ret
          exact ⟨by rw [hres]; rfl, B2'.trans (below_le hbw B2'.size)⟩
end Go.Proofs.YtjacoodfhkaioaaGreatDoor
namespace Go.Proofs.YtjacoodfhkaioaaGreatDoor
set_option linter.unusedSimpArgs false
/-- the first that is not nought -/
def lx (x y : Int) : Int := if x ≠ 0 then x else y
theorem lx_zero (y : Int) : lx 0 y = y := by simp [lx]
theorem lx_ne {x : Int} (h : x ≠ 0) (y : Int) : lx x y = x := by simp [lx, h]
theorem lx_right (x : Int) : lx x 0 = x := by unfold lx; split <;> omega
theorem lx_assoc (x y z : Int) : lx (lx x y) z = lx x (lx y z) := by
  unfold lx
  by_cases h : x = 0
  · simp [h]
  · simp [h]
theorem lx_neg (x y : Int) : lx (-x) (-y) = - lx x y := by
  unfold lx
  by_cases h : x = 0
  · simp [h]
  · have : -x ≠ 0 := by omega
    simp [h]
theorem cz_le (x y : Int) : cmpZ x y ≤ 0 ↔ x ≤ y := by
  unfold cmpZ
  by_cases h1 : x < y
  · simp [h1]; omega
  · by_cases h2 : y < x
    · simp [h1, h2]
    · simp [h1, h2]; omega
theorem cz_ge (x y : Int) : 0 ≤ cmpZ x y ↔ y ≤ x := by
  unfold cmpZ
  by_cases h1 : x < y
  · simp [h1]
  · by_cases h2 : y < x
    · simp [h1, h2]; omega
    · simp [h1, h2]; omega
theorem cz_zero (x y : Int) : cmpZ x y = 0 ↔ x = y := by
  have h1 := cz_le x y
  have h2 := cz_ge x y
  omega
theorem cz_self (x : Int) : cmpZ x x = 0 := (cz_zero x x).2 rfl
theorem cz_neg (x y : Int) : cmpZ y x = - cmpZ x y := by
  unfold cmpZ
  by_cases h1 : x < y
  · have : ¬ y < x := by omega
    simp [h1, this]
  · by_cases h2 : y < x
    · simp [h1, h2]
    · simp [h1, h2]
/-- what three comparisons of three say fits together -/
def Con (x y z : Int) : Prop := (x ≤ 0 → y ≤ 0 → z ≤ 0) ∧ (0 ≤ x → 0 ≤ y → 0 ≤ z) ∧ (y ≤ 0 → 0 ≤ z → 0 ≤ x) ∧ (0 ≤ y → z ≤ 0 → x ≤ 0) ∧ (0 ≤ z → x ≤ 0 → 0 ≤ y) ∧ (z ≤ 0 → 0 ≤ x → y ≤ 0)
theorem con_cz (x y z : Int) : Con (cmpZ x y) (cmpZ y z) (cmpZ x z) := by
  unfold Con
  simp only [cz_le, cz_ge]
  omega
theorem con_lx {x y z x' y' z' : Int} (h : Con x y z) (h' : x = 0 → y = 0 → z = 0 → Con x' y' z') : Con (lx x x') (lx y y') (lx z z') := by
  unfold Con at h h' ⊢
  unfold lx
  by_cases hx : x = 0
  · by_cases hy : y = 0
    · have hz : z = 0 := by omega
      simpa [hx, hy, hz] using h' hx hy hz
    · have hz : z ≠ 0 := by omega
      simp only [hx, hy, hz, ne_eq, not_true_eq_false, not_false_eq_true, if_true, if_false]
      omega
  · by_cases hy : y = 0
    · have hz : z ≠ 0 := by omega
      simp only [hx, hy, hz, ne_eq, not_true_eq_false, not_false_eq_true, if_true, if_false]
      omega
    · by_cases hz : z = 0
      · simp only [hx, hy, hz, ne_eq, not_true_eq_false, not_false_eq_true, if_true, if_false]
        omega
      · simp only [hx, hy, hz, ne_eq, not_true_eq_false, not_false_eq_true, if_true, if_false]
        omega
theorem con_zero : Con 0 0 0 := by unfold Con; omega
theorem lexZ_cons (x y : Nat) (xs ys : List Nat) : lexZ_o (x :: xs) (y :: ys) = lx (cmpZ (x : Int) (y : Int)) (lexZ_o xs ys) := by
  show (if x = y then lexZ_o xs ys else cmpZ (x : Int) (y : Int)) = _
  by_cases h : x = y
  · subst h; rw [if_pos rfl, cz_self, lx_zero]
  · rw [if_neg h, lx_ne]
    rw [Ne, cz_zero]; omega
theorem lexZ_neg : ∀ a b : List Nat, lexZ_o b a = - lexZ_o a b
  | [], [] => rfl
  | [], _ :: _ => rfl
  | _ :: _, [] => rfl
  | x :: xs, y :: ys => by rw [lexZ_cons, lexZ_cons, cz_neg, lexZ_neg xs ys, lx_neg]
theorem con_lex : ∀ a b c : List Nat, Con (lexZ_o a b) (lexZ_o b c) (lexZ_o a c)
  | [], [], [] => con_zero
  | [], [], _ :: _ => by show Con 0 (-1) (-1); unfold Con; omega
  | [], _ :: _, [] => by show Con (-1) 1 0; unfold Con; omega
  | _ :: _, [], [] => by show Con 1 0 1; unfold Con; omega
  | [], x :: xs, y :: ys => by show Con (-1) (lexZ_o (x :: xs) (y :: ys)) (-1); unfold Con; omega
  | x :: xs, [], y :: ys => by show Con 1 (-1) (lexZ_o (x :: xs) (y :: ys)); unfold Con; omega
  | x :: xs, y :: ys, [] => by show Con (lexZ_o (x :: xs) (y :: ys)) 1 1; unfold Con; omega
  | x :: xs, y :: ys, z :: zs => by
    rw [lexZ_cons, lexZ_cons, lexZ_cons]
    exact con_lx (con_cz _ _ _) (fun _ _ _ => con_lex xs ys zs)
theorem lexZ_self : ∀ a : List Nat, lexZ_o a a = 0
  | [] => rfl
  | x :: xs => by rw [lexZ_cons, cz_self, lx_zero, lexZ_self xs]
mutual
/-- one term against another -/
def cT : Tm → Tm → Int
  | .mk k neg d nm n l b, .mk k' neg' d' nm' n' l' b' => lx (cmpZ k k') (
    if k = 0 then cmpZ (sv neg (gval 4294967296 d)) (sv neg' (gval 4294967296 d'))
    else if k = 1 then lessZ_o nm.data.toList nm'.data.toList
    else if k = 2 ∨ k = 3 then cmpZ n n'
    else if k = 7 then lexZ_o b b'
    else if k = 4 ∨ k = 6 then lx (cmpZ (l.length : Int) (l'.length : Int)) (cR l l')
    else 0)
def cR : List Tm → List Tm → Int
  | [], _ => 0
  | _ :: _, [] => 0
  | t :: l, t' :: l' => lx (cT t t') (cR l l')
end
theorem cR_cons (t t' : Tm) (l l' : List Tm) : cR (t :: l) (t' :: l') = lx (cT t t') (cR l l') := by rw [cR]
theorem cR_nil (l : List Tm) : cR [] l = 0 := by rw [cR]
theorem cR_nil' (l : List Tm) : cR l [] = 0 := by cases l <;> rw [cR]
/-- a part that has its order -/
def okO : Tm → Prop | .mk k neg d nm n l b => 0 ≤ k ∧ k ≤ 7 ∧ (k = 6 → l.length = 2) ∧ (k = 1 → Lib.validD nm.data.toList = true) ∧ (Tm.mk k neg d nm n l b).ok1
def wfT (T : Tm) : Prop := ∀ t ∈ parts T, okO t
def wfL (l : List Tm) : Prop := ∀ t ∈ partsL l, okO t
theorem wfT.self {T : Tm} (h : wfT T) : okO T := h T (by rw [parts_eq]; simp)
theorem wfT.kids {T : Tm} (h : wfT T) : wfL T.kids := fun t ht => h t (by rw [parts_eq]; simp [ht])
theorem wfL.head {t : Tm} {l : List Tm} (h : wfL (t :: l)) : wfT t := fun s hs => h s (by simp [partsL, hs])
theorem wfL.tail {t : Tm} {l : List Tm} (h : wfL (t :: l)) : wfL l := fun s hs => h s (by simp [partsL, hs])
theorem wfL.cons {t : Tm} {l : List Tm} (h : wfT t) (hl : wfL l) : wfL (t :: l) := fun s hs => by
  simp only [partsL, List.mem_append] at hs
  exact hs.elim (h s) (hl s)
theorem wfL.nil : wfL [] := fun s hs => by simp [partsL] at hs
theorem wfT.l {k : Int} {neg : Bool} {d : List Nat} {nm : ByteArray} {n : Int} {l : List Tm} {b : List Nat} (h : wfT (.mk k neg d nm n l b)) (hk : k = 4 ∨ k = 6) : wfL l := by
  have := h.kids
  simpa [Tm.kids, hk] using this
theorem lessZ_valid {a b : List UInt8} (ha : Lib.validD a = true) (hb : Lib.validD b = true) : lessZ_o a b = lexZ_o (sg a) (sg b) := by simp [lessZ_o, ha, hb]
mutual
theorem cT_neg : ∀ (a b : Tm), wfT a → wfT b → cT b a = - cT a b
  | .mk k neg d nm n l b, .mk k' neg' d' nm' n' l' b', ha, hb => by
    rw [cT, cT]
    by_cases h : k = k'
    · subst h
      rw [cz_self, lx_zero, lx_zero]
      by_cases h0 : k = 0
      · rw [if_pos h0, if_pos h0, cz_neg]
      rw [if_neg h0, if_neg h0]
      by_cases h1 : k = 1
      · rw [if_pos h1, if_pos h1, lessZ_valid (hb.self.2.2.2.1 h1) (ha.self.2.2.2.1 h1), lessZ_valid (ha.self.2.2.2.1 h1) (hb.self.2.2.2.1 h1), lexZ_neg]
      rw [if_neg h1, if_neg h1]
      by_cases h2 : k = 2 ∨ k = 3
      · rw [if_pos h2, if_pos h2, cz_neg]
      rw [if_neg h2, if_neg h2]
      by_cases h7 : k = 7
      · rw [if_pos h7, if_pos h7, lexZ_neg]
      rw [if_neg h7, if_neg h7]
      by_cases h4 : k = 4 ∨ k = 6
      · rw [if_pos h4, if_pos h4, cz_neg, cR_neg l l' (ha.l h4) (hb.l h4), lx_neg]
      rw [if_neg h4, if_neg h4]; rfl
    · have h1 : cmpZ k k' ≠ 0 := by rw [Ne, cz_zero]; exact h
      have h2 : cmpZ k' k ≠ 0 := by rw [Ne, cz_zero]; exact fun e => h e.symm
      rw [lx_ne h1, lx_ne h2, cz_neg]
theorem cR_neg : ∀ (l l' : List Tm), wfL l → wfL l' → cR l' l = - cR l l'
  | [], l', _, _ => by rw [cR_nil, cR_nil']; rfl
  | t :: l, [], _, _ => by rw [cR_nil, cR_nil']; rfl
  | t :: l, t' :: l', h, h' => by rw [cR_cons, cR_cons, cT_neg t t' h.head h'.head, cR_neg l l' h.tail h'.tail, lx_neg]
end
mutual
theorem con_T : ∀ (a b c : Tm), wfT a → wfT b → wfT c → Con (cT a b) (cT b c) (cT a c)
  | .mk k neg d nm n l b, .mk k' neg' d' nm' n' l' b', .mk k'' neg'' d'' nm'' n'' l'' b'', ha, hb, hc => by
    rw [cT, cT, cT]
    refine con_lx (con_cz _ _ _) (fun e1 e2 _ => ?_)
    rw [cz_zero] at e1 e2
    subst e1; subst e2
    by_cases h0 : k = 0
    · rw [if_pos h0, if_pos h0, if_pos h0]; exact con_cz _ _ _
    rw [if_neg h0, if_neg h0, if_neg h0]
    by_cases h1 : k = 1
    · rw [if_pos h1, if_pos h1, if_pos h1, lessZ_valid (ha.self.2.2.2.1 h1) (hb.self.2.2.2.1 h1), lessZ_valid (hb.self.2.2.2.1 h1) (hc.self.2.2.2.1 h1), lessZ_valid (ha.self.2.2.2.1 h1) (hc.self.2.2.2.1 h1)]
      exact con_lex _ _ _
    rw [if_neg h1, if_neg h1, if_neg h1]
    by_cases h2 : k = 2 ∨ k = 3
    · rw [if_pos h2, if_pos h2, if_pos h2]; exact con_cz _ _ _
    rw [if_neg h2, if_neg h2, if_neg h2]
    by_cases h7 : k = 7
    · rw [if_pos h7, if_pos h7, if_pos h7]; exact con_lex _ _ _
    rw [if_neg h7, if_neg h7, if_neg h7]
    by_cases h4 : k = 4 ∨ k = 6
    · rw [if_pos h4, if_pos h4, if_pos h4]
      refine con_lx (con_cz _ _ _) (fun e1 e2 _ => ?_)
      rw [cz_zero] at e1 e2
      exact con_R l l' l'' (by omega) (by omega) (ha.l h4) (hb.l h4) (hc.l h4)
    rw [if_neg h4, if_neg h4, if_neg h4]; exact con_zero
theorem con_R : ∀ (l l' l'' : List Tm), l.length = l'.length → l'.length = l''.length → wfL l → wfL l' → wfL l'' → Con (cR l l') (cR l' l'') (cR l l'')
  | [], l', l'', e1, e2, _, _, _ => by
    have h1 : l' = [] := List.eq_nil_of_length_eq_zero (by simpa using e1.symm)
    subst h1
    have h2 : l'' = [] := List.eq_nil_of_length_eq_zero (by simpa using e2.symm)
    subst h2
    rw [cR_nil]; exact con_zero
  | t :: l, [], _, e1, _, _, _, _ => by simp at e1
  | t :: l, t' :: l', [], _, e2, _, _, _ => by simp at e2
  | t :: l, t' :: l', t'' :: l'', e1, e2, h, h', h'' => by
    rw [cR_cons, cR_cons, cR_cons]
    exact con_lx (con_T t t' t'' h.head h'.head h''.head) (fun _ _ _ => con_R l l' l'' (by simpa using e1) (by simpa using e2) h.tail h'.tail h''.tail)
end
theorem cT_self (a : Tm) (h : wfT a) : cT a a = 0 := by
  have := cT_neg a a h h
  omega
theorem cR_self (l : List Tm) (h : wfL l) : cR l l = 0 := by
  have := cR_neg l l h h
  omega
/-- what waits: rows of either -/
def cS : List (List Tm × List Tm) → Int
  | [] => 0
  | p :: st => lx (cR p.1 p.2) (cS st)
end Go.Proofs.YtjacoodfhkaioaaGreatDoor
namespace Go.Proofs.YtjacoodfhkaioaaGreatDoor
open Go.ChangeShapes Go.WideShapes Go.ChangeAt Go.ChangeMaps Go.RowKit Go.Shelf
set_option linter.unusedSimpArgs false
set_option linter.unusedVariables false
set_option maxRecDepth 2000
section
variable {neg neg' : Bool} {d d' : List Nat} {nm nm' : ByteArray} {n n' : Int} {l l' : List Tm} {b b' : List Nat}
theorem cT_0 : cT (.mk 0 neg d nm n l b) (.mk 0 neg' d' nm' n' l' b') = cmpZ (sv neg (gval 4294967296 d)) (sv neg' (gval 4294967296 d')) := by rw [cT, cz_self, lx_zero, if_pos rfl]
theorem cT_1 : cT (.mk 1 neg d nm n l b) (.mk 1 neg' d' nm' n' l' b') = lessZ_o nm.data.toList nm'.data.toList := by rw [cT, cz_self, lx_zero, if_neg (by decide), if_pos rfl]
theorem cT_2 : cT (.mk 2 neg d nm n l b) (.mk 2 neg' d' nm' n' l' b') = cmpZ n n' := by rw [cT, cz_self, lx_zero, if_neg (by decide), if_neg (by decide), if_pos (by decide)]
theorem cT_3 : cT (.mk 3 neg d nm n l b) (.mk 3 neg' d' nm' n' l' b') = cmpZ n n' := by rw [cT, cz_self, lx_zero, if_neg (by decide), if_neg (by decide), if_pos (by decide)]
theorem cT_7 : cT (.mk 7 neg d nm n l b) (.mk 7 neg' d' nm' n' l' b') = lexZ_o b b' := by rw [cT, cz_self, lx_zero, if_neg (by decide), if_neg (by decide), if_neg (by decide), if_pos rfl]
theorem cT_4 : cT (.mk 4 neg d nm n l b) (.mk 4 neg' d' nm' n' l' b') = lx (cmpZ (l.length : Int) (l'.length : Int)) (cR l l') := by rw [cT, cz_self, lx_zero, if_neg (by decide), if_neg (by decide), if_neg (by decide), if_neg (by decide), if_pos (by decide)]
theorem cT_6 : cT (.mk 6 neg d nm n l b) (.mk 6 neg' d' nm' n' l' b') = lx (cmpZ (l.length : Int) (l'.length : Int)) (cR l l') := by rw [cT, cz_self, lx_zero, if_neg (by decide), if_neg (by decide), if_neg (by decide), if_neg (by decide), if_pos (by decide)]
theorem cT_5 : cT (.mk 5 neg d nm n l b) (.mk 5 neg' d' nm' n' l' b') = 0 := by rw [cT, cz_self, lx_zero, if_neg (by decide), if_neg (by decide), if_neg (by decide), if_neg (by decide), if_neg (by decide)]
theorem cT_kind {k k' : Int} (h : k ≠ k') : cT (.mk k neg d nm n l b) (.mk k' neg' d' nm' n' l' b') = cmpZ k k' := by rw [cT, lx_ne (by rw [Ne, cz_zero]; exact h)]
end
theorem heap_setc {w : World} {b j : Nat} {cs : Array Value} {T : TypeId} (h : w.heap[b]? = some (.cells cs T (0, 0))) (q : Value) :
    (w.setCell ⟨b, j, none⟩ q).heap[b]? = some (.cells (cs.setIfInBounds j q) T (0, 0)) := by
  simp [World.setCell, Array.getElem?_modify, h]
def ShutO (p : Prop) : Prop := p
theorem shutO {p : Prop} (h : p) : ShutO p := h
theorem ShutO.out {p : Prop} (h : ShutO p) : p := h
set_option maxHeartbeats 1000000 in
theorem rNil_w (w : World) : Calls Tryz.prog 31 #[] w fun e w' => e = .returned (tmV 5 false nilS noS 0 nilS nilS) ∧ Below w.heap.size w w' := by
  go_enter Tryz.func31, Tryz.ntmps31
  go_wp2
  exact bodyPost_ret (v := tmV 5 false nilS noS 0 nilS nilS) (by simp [results, Tryz.results31, go_sem]) rfl ⟨rfl, (Below.refl _ w).alloc (Nat.le_refl _) _⟩
end Go.Proofs.YtjacoodfhkaioaaGreatDoor
namespace Go.Proofs.YtjacoodfhkaioaaGreatDoor
open Go.ChangeShapes Go.WideShapes Go.ChangeAt Go.ChangeMaps Go.RowKit Go.Shelf
set_option linter.unusedSimpArgs false
set_option linter.unusedVariables false
set_option maxRecDepth 2000
set_option maxHeartbeats 2000000 in
set_option maxRecDepth 4000 in
theorem rbytes_w (oa ob : Option Addr) (ca cb : Nat) (a b : List Nat) (w : World) (ha : a.length ≤ 1000000) (hb : b.length ≤ 1000000) (hra : LsB (Low w) oa a w) (hrb : LsB (Low w) ob b w) :
    Calls Tryz.prog 59 #[.slice oa a.length ca, .slice ob b.length cb] w fun e w' => e = .returned (.int .i64 (lexZ_o a b)) ∧ Below w.heap.size w w' := by
  obtain ⟨R, hR⟩ : ∃ R, lexZ_o a b = R := ⟨_, rfl⟩
  rw [hR]
  go_enter Tryz.func59, Tryz.ntmps59
  go_wp2
  go_loopw [5] (fun i wr => ∃ k : Nat, i = .int .i64 (k : Int) ∧ k ≤ a.length ∧ k ≤ b.length ∧ Below w.heap.size w wr ∧ Hid (lexZ_o (a.drop k) (b.drop k) = R)) (fun i _ => a.length - (intOf i).toNat)
  case atStart => exact ⟨0, rfl, by omega, by omega, Below.refl _ _, hid (by simpa using hR)⟩
  case round =>
    obtain ⟨k, rfl, hka, hkb, hbw, hH⟩ := hrel
    clear hR
    have ra := hra.zs (fun k hk => hbw.block k hk)
    have rb := hrb.zs (fun k hk => hbw.block k hk)
    by_cases h1 : k < a.length
    · have h1z : (k : Int) < (a.length : Int) := by omega
      by_cases h2 : k < b.length
      · have h2z : (k : Int) < (b.length : Int) := by omega
        obtain ⟨x, hx⟩ : ∃ x, a[k]? = some x := ⟨a[k], by simp [h1]⟩
        obtain ⟨y, hy⟩ : ∃ y, b[k]? = some y := ⟨b[k], by simp [h2]⟩
        obtain ⟨da', hda, _, cx⟩ := ra.1 k (.int .u8 (x : Int)) (by simp [hx])
        obtain ⟨db', hdb, _, cy⟩ := rb.1 k (.int .u8 (y : Int)) (by simp [hy])
        subst hda
        subst hdb
        have hx2 : x < 256 := hra.2 x (List.mem_of_getElem? hx)
        have hy2 : y < 256 := hrb.2 y (List.mem_of_getElem? hy)
        have da : Hid (a.drop k = x :: a.drop (k + 1)) := hid (by rw [List.drop_eq_getElem_cons h1]; congr 1; simpa [h1] using hx)
        have db : Hid (b.drop k = y :: b.drop (k + 1)) := hid (by rw [List.drop_eq_getElem_cons h2]; congr 1; simpa [h2] using hy)
        clear ra rb
        have Hx := hid hx
        have Hy := hid hy
        clear hx hy
        by_cases hxy : x = y
        · subst hxy
          go_wp2
          go_quiet (fail)
          go_wp2
          go_roundw
          case rel =>
            refine ⟨k + 1, by go_num, by omega, by omega, below_drewNv hbw _, hid ?_⟩
            rw [← hH.out, da.out, db.out, lexZ_o, if_pos rfl]
          case measure => simp [intOf]; omega
        · have hxz : ((x : Int) == (y : Int)) = false := by
            simp only [beq_eq_false_iff_ne, ne_eq]
            omega
          have hwx : IntKind.i64.wrap (x : Int) = (x : Int) := by rw [IntKind.wrap_i64]; omega
          have hwy : IntKind.i64.wrap (y : Int) = (y : Int) := by rw [IntKind.wrap_i64]; omega
          have hres : R = cmpZ (x : Int) (y : Int) := by rw [← hH.out, da.out, db.out, lexZ_o, if_neg hxy]
          go_wp2
          go_quiet (fail)
          have hbw' := below_drewNv hbw nq
          obtain ⟨e1, he1, _, cx'⟩ := (hra.zs (fun k hk => hbw'.block k hk)).1 k (.int .u8 (x : Int)) (by simp [Hx.out])
          obtain ⟨e2, he2, _, cy'⟩ := (hrb.zs (fun k hk => hbw'.block k hk)).1 k (.int .u8 (y : Int)) (by simp [Hy.out])
          injection he1 with he1
          injection he2 with he2
          subst he1
          subst he2
          clear cx cy hbw
          generalize wr.drewN nq = wq at *
          go_wp2
          go_quiet ((go_at_call 56; exact Calls.quiet_of_same (order_q_o _ _ _)))
          go_wp2
          go_ret
          exact ⟨by rw [hres]; rfl, below_drewNv hbw' _⟩
      · have h2z : ¬ (k : Int) < (b.length : Int) := by omega
        have hres : R = cmpZ (a.length : Int) (b.length : Int) := by
          rw [← hH.out, List.drop_eq_getElem_cons h1, show b.drop k = [] from List.drop_eq_nil_of_le (by omega)]
          unfold cmpZ; rw [if_neg (by omega), if_pos (by omega)]; rfl
        go_wp2_with fail
        refine (order_q_o _ _ _).mono ?_
        rintro e w1 ⟨rfl, rfl⟩
        go_wp2
        go_ret
        exact ⟨by rw [hres]; rfl, hbw⟩
    · have h1z : ¬ (k : Int) < (a.length : Int) := by omega
      have hres : R = cmpZ (a.length : Int) (b.length : Int) := by
        rw [← hH.out, List.drop_eq_nil_of_le (by omega)]
        unfold cmpZ
        by_cases h2 : k < b.length
        · rw [List.drop_eq_getElem_cons h2, if_pos (by omega)]; rfl
        · rw [List.drop_eq_nil_of_le (by omega), if_neg (by omega), if_neg (by omega)]; rfl
      go_wp2_with fail
      refine (order_q_o _ _ _).mono ?_
      rintro e w1 ⟨rfl, rfl⟩
      go_wp2
      go_ret
      exact ⟨by rw [hres]; rfl, hbw⟩

end Go.Proofs.YtjacoodfhkaioaaGreatDoor
