/- List of package term. -/
import Derived.Test.YtgaecjocolihjabDoorTermInt
namespace Go.Proofs.YtgaecjocolihjabDoor
open Go.ChangeShapes Go.WideShapes Go.ChangeAt Go.RowKit Go.Shelf
set_option linter.unusedSimpArgs false
set_option linter.unusedVariables false
def nilT : Tm := .mk 5 false [] noS 0 [] []
def consT (a b : Tm) : Tm := .mk 6 false [] noS 0 [a, b] []
def listT : List Tm → Tm
  | [] => nilT
  | t :: l => consT t (listT l)
def ZL (S gt : Nat) (w : World) : Nat → Prop := fun k => Zw S w k ∧ k ≠ gt
/-- zones follow memory -/
theorem zl_mono {S gt : Nat} {w w' : World} (hb : ∀ k, S ≤ k → k < w.heap.size → k ≠ gt → w'.heap[k]? = w.heap[k]?) : ∀ k, k < w.heap.size → ZL S gt w k → ZL S gt w' k := fun k hk hz => ⟨⟨hz.1.1, fun j => (World.frozen?_of_block (a := ⟨k, j, none⟩) (hb k hz.1.1 hk hz.2)).trans (hz.1.2 j)⟩, hz.2⟩
theorem zl_tv {S gt : Nat} {w w' : World} {t : Tm} {v : Value} (h : TV (ZL S gt w) w t v) (hb : ∀ k, S ≤ k → k < w.heap.size → k ≠ gt → w'.heap[k]? = w.heap[k]?) : TV (ZL S gt w') w' t v := by
  have h1 : TV (fun k => ZL S gt w k ∧ k < w.heap.size) w t v := TV.mono (fun k hk hz => ⟨hz, hk⟩) _ _ h
  have h2 := TV.zs (w' := w') (fun k hk => hb k hk.1.1.1 hk.2 hk.1.2) _ _ h1
  exact TV.mono (fun k _ hz => zl_mono hb k hz.2 hz.1) _ _ h2
theorem zl_tr {S gt : Nat} {w w' : World} {l : List Tm} {o : Option Addr} (h : TR (ZL S gt w) w l o) (hb : ∀ k, S ≤ k → k < w.heap.size → k ≠ gt → w'.heap[k]? = w.heap[k]?) : TR (ZL S gt w') w' l o := by
  have h1 : TR (fun k => ZL S gt w k ∧ k < w.heap.size) w l o := TR.mono (fun k hk hz => ⟨hz, hk⟩) _ _ h
  have h2 := TR.zs (w' := w') (fun k hk => hb k hk.1.1.1 hk.2 hk.1.2) _ _ h1
  exact TR.mono (fun k _ hz => zl_mono hb k hz.2 hz.1) _ _ h2
/-- two terms in a row of two -/
theorem tr_two {Z : Nat → Prop} {w : World} {t t' : Tm} {k k' : Int} {neg neg' : Bool} {od od' : Option Addr} {ld cd ld' cd' : Nat} {nm nm' : ByteArray} {n n' : Int} {ol ol' : Option Addr} {ll cl ll' cl' : Nat} {ob ob' : Option Addr} {lb cb lb' cb' : Nat} {g : Nat}
    (h : TV Z w t (tmV k neg (.slice od ld cd) nm n (.slice ol ll cl) (.slice ob lb cb))) (h' : TV Z w t' (tmV k' neg' (.slice od' ld' cd') nm' n' (.slice ol' ll' cl') (.slice ob' lb' cb'))) {ty : TypeId}
    (hg : w.heap[g]? = some (.cells #[.int .i64 k, .bool neg, .slice od ld cd, .string nm, .int .i64 n, .slice ol ll cl, .slice ob lb cb, .int .i64 k', .bool neg', .slice od' ld' cd', .string nm', .int .i64 n', .slice ol' ll' cl', .slice ob' lb' cb'] ty (0, 0))) (hZ : Z g) :
    TR Z w [t, t'] (some ⟨g, 0, none⟩) := by
  have q : ∀ j, w.cell? ((⟨g, 0, none⟩ : Addr).add j) = (#[.int .i64 k, .bool neg, .slice od ld cd, .string nm, .int .i64 n, .slice ol ll cl, .slice ob lb cb, .int .i64 k', .bool neg', .slice od' ld' cd', .string nm', .int .i64 n', .slice ol' ll' cl', .slice ob' lb' cb'] : Array Value)[j]? := fun j => by
    rw [addr_add, Nat.zero_add]; simp [World.cell?, hg]
  have q7 : ∀ j, w.cell? (((⟨g, 0, none⟩ : Addr).add 7).add j) = (#[.int .i64 k, .bool neg, .slice od ld cd, .string nm, .int .i64 n, .slice ol ll cl, .slice ob lb cb, .int .i64 k', .bool neg', .slice od' ld' cd', .string nm', .int .i64 n', .slice ol' ll' cl', .slice ob' lb' cb'] : Array Value)[7 + j]? := fun j => by
    rw [add_add]; exact q _
  have q0 := q 0
  have q70 := q7 0
  rw [add_zero] at q0 q70
  unfold TR
  refine ⟨_, _, rfl, hZ, ⟨_, _, _, _, _, _, _, rfl, q0, q 1, q 2, q 3, q 4, q 5, q 6⟩, h, ?_⟩
  unfold TR
  exact ⟨_, _, rfl, by rw [block_add]; exact hZ, ⟨_, _, _, _, _, _, _, rfl, q70, q7 1, q7 2, q7 3, q7 4, q7 5, q7 6⟩, h', by unfold TR; trivial⟩
theorem drop_at {l : List Tm} {i : Nat} {t : Tm} (h : l[i]? = some t) : l.drop i = t :: l.drop (i + 1) := by
  obtain ⟨hi, he⟩ := List.getElem?_eq_some_iff.1 h
  rw [List.drop_eq_getElem_cons hi, he]
set_option maxHeartbeats 2000000 in
set_option maxRecDepth 4000 in
theorem List_w (ls : List Tm) (o : Option Addr) (c : Nat) (w : World) (hne : ls ≠ []) (hlen : (partsL ls).length ≤ 5000000) (hl : ls.length ≤ 500000) (hok : ∀ p ∈ partsL ls, p.ok1) (hT : TR (Low w) w ls o) :
    Calls Tryd.prog 7 #[.slice o ls.length c] w fun e w' => ∃ v', e = .returned v' ∧ TV (Zw w.heap.size w') w' (listT (cpL ls)) v' ∧ Below w.heap.size w w' := by
  obtain ⟨kX, hBX, hz0⟩ := bx1 w (.int .i64 0) (.bool false) nilS (.string noS) (.int .i64 0) nilS nilS 30
  go_enter Tryd.func7, Tryd.ntmps7
  go_wp2_with fail
  generalize (w.alloc (.cells #[.int .i64 0, .bool false, .slice none 0 0, .string { data := #[] }, .int .i64 0, .slice none 0 0, .slice none 0 0] 30)) = W0 at *
  refine (copies_w ls _ _ _ hne hlen hl hok (tr_below hT hBX)).mono ?_
  rintro e w1 ⟨g', c', rfl, hR, hc', b1⟩
  have hB1 := below_and hBX (by omega) b1
  have kX1 := kX.below b1
  have hz1 := b1.size
  clear hT hBX kX
  have hgl : Hid (cpL ls ≠ []) := hid (fun e => hne (by have := cpL_len ls; rw [e] at this; exact List.eq_nil_of_length_eq_zero this.symm))
  go_wp2_with fail
  refine (Nil_w _).mono ?_
  rintro e w2 ⟨rfl, b2⟩
  have hB2 := below_and hB1 (by omega) b2
  have kX2 := kX1.below b2
  have hz2 := b2.size
  obtain ⟨kT, hBT, hzT⟩ := bx1 w2 (.int .i64 5) (.bool false) nilS (.string noS) (.int .i64 0) nilS nilS 30
  have hB3 := hB2.trans (below_le hBT (by omega))
  have kX3 := kX2.below hBT
  have hR3 : TR (ZL (w.heap.size + 1) w2.heap.size (w2.alloc (.cells #[.int .i64 5, .bool false, nilS, .string noS, .int .i64 0, nilS, nilS] 30))) (w2.alloc (.cells #[.int .i64 5, .bool false, nilS, .string noS, .int .i64 0, nilS, nilS] 30)) (cpL ls) (some ⟨g', 0, none⟩) := by
    have h1 : TR (fun k => Zw W0.heap.size w1 k ∧ k < w1.heap.size) w1 (cpL ls) (some ⟨g', 0, none⟩) := TR.mono (fun k hk hz => ⟨hz, hk⟩) _ _ hR
    have hq : ∀ k, k < w1.heap.size → (w2.alloc (.cells #[.int .i64 5, .bool false, nilS, .string noS, .int .i64 0, nilS, nilS] 30)).heap[k]? = w1.heap[k]? := fun k hk => (hBT.block k (by omega)).trans (b2.block k hk)
    refine TR.mono (fun k _ hz => ⟨⟨by have := hz.1.1; omega, fun j => (World.frozen?_of_block (a := ⟨k, j, none⟩) (hq k hz.2)).trans (hz.1.2 j)⟩, by have := hz.2; omega⟩) _ _ (TR.zs (fun k hk => hq k hk.2) _ _ h1)
  have hn3 : w.heap.size + 1 < w2.heap.size + 1 := by omega
  clear hR b1 b2 hBT hB1 hB2 kX1 kX2
  go_wp2_with fail
  generalize (w2.alloc (.cells #[.int .i64 5, .bool false, nilS, .string noS, .int .i64 0, nilS, nilS] 30)) = W3 at *
  have hHl := hid hl
  have hcl := cpL_len ls
  go_loopg [5] ls.length (fun t v5 wr => ∃ (k : Int) (neg : Bool) (od : Option Addr) (ld cd : Nat) (nm : ByteArray) (n : Int) (ol : Option Addr) (ll cl : Nat) (ob : Option Addr) (lb cb : Nat), v5 = .int .i64 ((t : Int) - 1) ∧ t ≤ ls.length ∧ TV (ZL (w.heap.size + 1) w2.heap.size wr) wr (listT ((cpL ls).drop t)) (tmV k neg (.slice od ld cd) nm n (.slice ol ll cl) (.slice ob lb cb)) ∧ Bx w2.heap.size (.int .i64 k) (.bool neg) (.slice od ld cd) (.string nm) (.int .i64 n) (.slice ol ll cl) (.slice ob lb cb) wr ∧ TR (ZL (w.heap.size + 1) w2.heap.size wr) wr (cpL ls) (some ⟨g', 0, none⟩) ∧ Bx w.heap.size (.int .i64 0) (.bool false) nilS (.string noS) (.int .i64 0) nilS nilS wr ∧ Below w.heap.size w wr)
  case atStart =>
    refine ⟨5, false, none, 0, 0, noS, 0, none, 0, 0, none, 0, 0, rfl, Nat.le_refl _, ?_, kT, hR3, kX3, hB3⟩
    rw [List.drop_of_length_le (by omega)]
    exact tv_flat 5 noS 0
  case round =>
    obtain ⟨k, neg, od, ld, cd, nm, n, ol, ll, cl, ob, lb, cb, rfl, hgk, hV, kt, hRr, kx, hBr⟩ := hrel
    clear kT hR3 kX3 hB3
    generalize gk = m at *
    cases m with
    | zero =>
      rw [List.drop_zero] at hV
      obtain ⟨y0, y1, y2, y3, y4, y5, y6⟩ := kt.res
      have hf9 := kx.fr
      obtain ⟨x0, x1, x2, x3, x4, x5, x6⟩ := kx.res
      have hput := kx.put (b0 := .int .i64 k) (b1 := .bool neg) (b2 := .slice od ld cd) (b3 := .string nm) (b4 := .int .i64 n) (b5 := .slice ol ll cl) (b6 := .slice ob lb cb)
      have hon := only_put wr w.heap.size (.int .i64 k) (.bool neg) (.slice od ld cd) (.string nm) (.int .i64 n) (.slice ol ll cl) (.slice ob lb cb)
      obtain ⟨r0, r1, r2, r3, r4, r5, r6⟩ := hput.res
      have hfin := hid hV
      have hBf := hBr.trans (hon.below (B := w.heap.size) (by omega))
      clear hV kx hput hBr hRr
      go_wp2
      have hres : TV (Zw w.heap.size (((((((wr.setCell ⟨w.heap.size, 0, none⟩ (.int .i64 k)).setCell ⟨w.heap.size, 1, none⟩ (.bool neg)).setCell ⟨w.heap.size, 2, none⟩ (.slice od ld cd)).setCell ⟨w.heap.size, 3, none⟩ (.string nm)).setCell ⟨w.heap.size, 4, none⟩ (.int .i64 n)).setCell ⟨w.heap.size, 5, none⟩ (.slice ol ll cl)).setCell ⟨w.heap.size, 6, none⟩ (.slice ob lb cb))) (((((((wr.setCell ⟨w.heap.size, 0, none⟩ (.int .i64 k)).setCell ⟨w.heap.size, 1, none⟩ (.bool neg)).setCell ⟨w.heap.size, 2, none⟩ (.slice od ld cd)).setCell ⟨w.heap.size, 3, none⟩ (.string nm)).setCell ⟨w.heap.size, 4, none⟩ (.int .i64 n)).setCell ⟨w.heap.size, 5, none⟩ (.slice ol ll cl)).setCell ⟨w.heap.size, 6, none⟩ (.slice ob lb cb)) (listT (cpL ls)) (tmV k neg (.slice od ld cd) nm n (.slice ol ll cl) (.slice ob lb cb)) := by
        exact TV.mono (fun k _ hz => ⟨by have := hz.1.1; omega, hz.1.2⟩) _ _ (zl_tv hfin.out (fun k hk _ _ => hon.2.2 k (by omega)))
      exact bodyPost_ret (v := tmV k neg (.slice od ld cd) nm n (.slice ol ll cl) (.slice ob lb cb)) (by simp [results, Tryd.results7, go_sem, r0, r1, r2, r3, r4, r5, r6]) rfl ⟨_, rfl, hres, hBf⟩
    | succ m =>
      obtain ⟨t, ht⟩ : ∃ t, (cpL ls)[m]? = some t := ⟨(cpL ls)[m]'(by omega), by simp⟩
      obtain ⟨v, hZg, hA, hTv⟩ := TR.at _ _ m t hRr ht
      rw [addr_add, Nat.zero_add, Nat.mul_comm] at hA
      obtain ⟨k', neg', od', ld', cd', nm', n', ol', ll', cl', ob', lb', cb', rfl⟩ := hTv.form
      obtain ⟨c0, c1, c2, c3, c4, c5, c6⟩ := hA.tm
      simp only at c1 c2 c3 c4 c5 c6
      obtain ⟨y0, y1, y2, y3, y4, y5, y6⟩ := kt.res
      have hf9 := kt.fr
      have hgeq : (0 : Int) ≤ ((m + 1 : Nat) : Int) - 1 := by omega
      have hHt := hid ht
      clear ht
      have hBd : Below wr.heap.size wr (wr.alloc (.cells #[.int .i64 k', .bool neg', .slice od' ld' cd', .string nm', .int .i64 n', .slice ol' ll' cl', .slice ob' lb' cb', .int .i64 k, .bool neg, .slice od ld cd, .string nm, .int .i64 n, .slice ol ll cl, .slice ob lb cb] 30)) := (Below.refl _ wr).alloc (Nat.le_refl _) _
      have kt2 := kt.below hBd
      obtain ⟨z0, z1, z2, z3, z4, z5, z6⟩ := kt2.res
      have hf2 := kt2.fr
      go_wp2_with fail
      go_region
      have hF : ∀ F : World, F = (((((((((wr.alloc (.cells #[.int .i64 k', .bool neg', .slice od' ld' cd', .string nm', .int .i64 n', .slice ol' ll' cl', .slice ob' lb' cb', .int .i64 k, .bool neg, .slice od ld cd, .string nm, .int .i64 n, .slice ol ll cl, .slice ob lb cb] 30)).setCell ⟨w2.heap.size, 0, none⟩ (.int .i64 6)).setCell ⟨w2.heap.size, 1, none⟩ (.bool false)).setCell ⟨w2.heap.size, 2, none⟩ nilS).setCell ⟨w2.heap.size, 3, none⟩ (.string noS)).setCell ⟨w2.heap.size, 4, none⟩ (.int .i64 0)).setCell ⟨w2.heap.size, 5, none⟩ (.slice (some ⟨wr.heap.size, 0, none⟩) 2 2)).setCell ⟨w2.heap.size, 6, none⟩ nilS).drew) → TV (ZL (w.heap.size + 1) w2.heap.size F) F (listT ((cpL ls).drop m)) (tmV 6 false nilS noS 0 (.slice (some ⟨wr.heap.size, 0, none⟩) 2 2) nilS) ∧ Bx w2.heap.size (.int .i64 6) (.bool false) nilS (.string noS) (.int .i64 0) (.slice (some ⟨wr.heap.size, 0, none⟩) 2 2) nilS F ∧ TR (ZL (w.heap.size + 1) w2.heap.size F) F (cpL ls) (some ⟨g', 0, none⟩) ∧ Bx w.heap.size (.int .i64 0) (.bool false) nilS (.string noS) (.int .i64 0) nilS nilS F ∧ Below w.heap.size w F := by
        have k3 := kt2.put (b0 := .int .i64 6) (b1 := .bool false) (b2 := nilS) (b3 := .string noS) (b4 := .int .i64 0) (b5 := .slice (some ⟨wr.heap.size, 0, none⟩) 2 2) (b6 := nilS)
        have hon := only_put (wr.alloc (.cells #[.int .i64 k', .bool neg', .slice od' ld' cd', .string nm', .int .i64 n', .slice ol' ll' cl', .slice ob' lb' cb', .int .i64 k, .bool neg, .slice od ld cd, .string nm, .int .i64 n, .slice ol ll cl, .slice ob lb cb] 30)) w2.heap.size (.int .i64 6) (.bool false) nilS (.string noS) (.int .i64 0) (.slice (some ⟨wr.heap.size, 0, none⟩) 2 2) nilS
        have hnw := heap_alloc_new wr (.cells #[.int .i64 k', .bool neg', .slice od' ld' cd', .string nm', .int .i64 n', .slice ol' ll' cl', .slice ob' lb' cb', .int .i64 k, .bool neg, .slice od ld cd, .string nm, .int .i64 n, .slice ol ll cl, .slice ob lb cb] 30)
        generalize (wr.alloc (.cells #[.int .i64 k', .bool neg', .slice od' ld' cd', .string nm', .int .i64 n', .slice ol' ll' cl', .slice ob' lb' cb', .int .i64 k, .bool neg, .slice od ld cd, .string nm, .int .i64 n, .slice ol ll cl, .slice ob lb cb] 30)) = W at *
        generalize (((((((W.setCell ⟨w2.heap.size, 0, none⟩ (.int .i64 6)).setCell ⟨w2.heap.size, 1, none⟩ (.bool false)).setCell ⟨w2.heap.size, 2, none⟩ nilS).setCell ⟨w2.heap.size, 3, none⟩ (.string noS)).setCell ⟨w2.heap.size, 4, none⟩ (.int .i64 0)).setCell ⟨w2.heap.size, 5, none⟩ (.slice (some ⟨wr.heap.size, 0, none⟩) 2 2)).setCell ⟨w2.heap.size, 6, none⟩ nilS) = V at *
        rintro F rfl
        have hbd : Below V.heap.size V V.drew := (Below.refl _ V).drew
        have hgt := kt.lt
        have hs1 := hBd.size
        have hs2 := hon.2.1
        have hh : ∀ k, w.heap.size + 1 ≤ k → k < wr.heap.size → k ≠ w2.heap.size → V.drew.heap[k]? = wr.heap[k]? := fun k _ hk hne => ((hbd.block k (by omega)).trans (hon.2.2 k hne)).trans (hBd.block k hk)
        have hnw' : V.drew.heap[wr.heap.size]? = some (.cells #[.int .i64 k', .bool neg', .slice od' ld' cd', .string nm', .int .i64 n', .slice ol' ll' cl', .slice ob' lb' cb', .int .i64 k, .bool neg, .slice od ld cd, .string nm, .int .i64 n, .slice ol ll cl, .slice ob lb cb] 30 (0, 0)) := ((hbd.block _ (by have := (Array.getElem?_eq_some_iff.1 hnw).1; omega)).trans (hon.2.2 _ (by omega))).trans hnw
        refine ⟨?_, k3.below hbd, zl_tr hRr hh, ((kx.below hBd).only hon (by omega)).below hbd, ?_⟩
        · rw [drop_at hHt.out]
          unfold listT consT TV
          refine ⟨none, 0, some ⟨wr.heap.size, 0, none⟩, 2, none, 0, rfl, Ls.nil _ _ _, by simp, Lm.nil _, LsB.nil _ _ _, by simp, by simp, ?_⟩
          exact tr_two (zl_tv hTv hh) (zl_tv hV hh) hnw' ⟨zw_of (by omega) hnw', by omega⟩
        · exact ((hBr.trans (below_le hBd hBr.size)).trans (hon.below (B := w.heap.size) (by omega))).trans (below_le hbd (by have := hBr.size; omega))
      have hHF := hid hF
      clear hF hV kt hRr kx hBr hTv hA hZg kt2 hBd c0 c1 c2 c3 c4 c5 c6 y0 y1 y2 y3 y4 y5 y6 z0 z1 z2 z3 z4 z5 z6 hf2 hf9
      have hm5 : m ≤ 500000 := by have := hHl.out; omega
      go_wp2
      go_roundg m
      case measure => omega
      case rel =>
        obtain ⟨q1, q2, q3, q4, q5⟩ := hHF.out _ rfl
        exact ⟨6, false, none, 0, 0, noS, 0, some ⟨wr.heap.size, 0, none⟩, 2, 2, none, 0, 0, by first | rfl | go_num, by omega, q1, q2, q3, q4, q5⟩
end Go.Proofs.YtgaecjocolihjabDoor
