/- Texts of mine, one behind the other: TextRdF, TextRdG, TextLaid, TextRdI, TextRdJ, TextShow, TextShow4. -/
import Derived.Test.YtjacoodfhkaioabGreatDoorSrQ
import Derived.Test.YtjacoodfhkaioabGreatDoorSrK
import Derived.Test.YtjacoodfhkaioabGreatDoorTie
import Derived.Test.YtjacoodfhkaioabGreatDoorCards
import Derived.PinnedBridge
import Derived.Lib.LaidU8T
import Derived.Lay
import Derived.ProofKit
import Derived.LaidMore
import Derived.SevenTiedAt
import Derived.Lib.LaidTab
import Derived.Test.YtjacoodfhkaioabGreatDoorSrP
namespace Go.Proofs.YtjacoodfhkaioabGreatDoor
open Go.ChangeShapes Go.WideShapes Go.ChangeAt Go.RowKit Go.Shelf
set_option linter.unusedSimpArgs false
set_option linter.unusedVariables false
set_option maxRecDepth 2000

theorem wt_len : ∀ st : List Op, st.length ≤ wtS st
  | [] => Nat.le_refl _
  | o :: st => by have := wt_len st; simp only [wtS, wtO, List.length_cons]; omega
set_option maxHeartbeats 8000000 in
theorem put_w (B g : Nat) (r : List UInt8) (o : Op) (st : List Op) (T : Tm) (x : Value) (w W0 : World) (hr : r.length ≤ 900000) (hw : wtS (o :: st) ≤ 800000) (hok : okOp o) (hS : StH B g r (o :: st) (.tm T) (.iface 26 x) w) (hTb : Tabs W0) (hWB : W0.heap.size ≤ B) (hWg : W0.heap.size ≤ g) (hb : Below W0.heap.size W0 w) :
    Calls Tryz.prog 30 #[.pointer (some ⟨g, 0, none⟩), x] w fun e w' => ∃ v, e = .returned v ∧ StH B g (putL o T r).2 st (putL o T r).1 v w' ∧ Kpt (FR B g) w w' := by
  obtain ⟨Z, us, ov, hR, x', ex, hTV⟩ := hS
  obtain rfl : x = x' := by injection ex
  obtain ⟨k, neg, od, ld, cd, nm, n, ol, ll, cl, ob, lb, cb, rfl⟩ := hTV.form
  obtain ⟨u, us', q, c, rfl, hrow, hap, hst, rfl, hcell, hqc, hown⟩ := rd_top hR
  obtain ⟨iT, hT1, hT2, hT3, hT4⟩ := info_parts infoT
  obtain ⟨ub, uv, uxs⟩ := u
  obtain ⟨vo, vc, e, hvc⟩ := own_sl hrow.own
  simp only at e
  subst e
  have hm : st.length ≤ 800000 := by have := wt_len st; simp only [wtS] at hw; omega
  have hN : o.its.length ≤ 800000 := by simp only [wtS, wtO] at hw; omega
  have hxl0 : uxs.length = o.its.length * 7 := hrow.own.1
  obtain ⟨m, hmm⟩ : ∃ m, st.length = m := ⟨_, rfl⟩
  obtain ⟨N, hNN⟩ : ∃ N, o.its.length = N := ⟨_, rfl⟩
  have hgl := hR.rdr.lt
  have hub := (hrow.lt ub (.inl rfl)).2
  have hubg : ub ≠ g := hR.ne_g hrow.at_ (by decide)
  obtain ⟨z0, z1, f0, f1⟩ := hR.rdr.cells
  have hat := hrow.at_
  have hO0 : Hid (w.ownsRow B 26 7 (.slice vo o.its.length vc) o.its.length uxs) := hid hrow.own
  have hbox := heap_alloc_new w (.cells #[.int .i64 k, .bool neg, .slice od ld cd, .string nm, .int .i64 n, .slice ol ll cl, .slice ob lb cb] 26)
  have bW := (Below.refl w.heap.size w).alloc (Nat.le_refl _) (.cells #[.int .i64 k, .bool neg, .slice od ld cd, .string nm, .int .i64 n, .slice ol ll cl, .slice ob lb cb] 26)
  have hWs : (w.alloc (.cells #[.int .i64 k, .bool neg, .slice od ld cd, .string nm, .int .i64 n, .slice ol ll cl, .slice ob lb cb] 26)).heap.size = w.heap.size + 1 := by simp
  obtain ⟨W1, hW1⟩ : ∃ W1, W1 = (w.alloc (.cells #[.int .i64 k, .bool neg, .slice od ld cd, .string nm, .int .i64 n, .slice ol ll cl, .slice ob lb cb] 26)) := ⟨_, rfl⟩
  rw [← hW1] at hbox bW hWs
  have hR1 := hR.rdr.below bW
  rw [hmm] at hcell hqc hown z1 hR1
  have hcell1 : W1.cell? ⟨q, m, none⟩ = some (.pointer (some ⟨ub, 0, none⟩)) := (bW.cell (World.block_lt_of_cell? _ _ hcell)).trans hcell
  obtain ⟨a0, a1, af0, af1⟩ := hR1.cells
  have hat1 := (bW.block ub hub).trans hat
  have hownr1 := own_below hrow.own bW
  have hown1 := own_below hown bW
  obtain ⟨V, hV⟩ : ∃ V, V = W1.setCell ⟨g, 1, none⟩ (.slice (some ⟨q, 0, none⟩) m c) := ⟨_, rfl⟩
  have hRV : Rdr g r (.slice (some ⟨q, 0, none⟩) m c) V := by
    refine ⟨?_⟩
    have := hR1.at_
    rw [hV]
    simp [World.setCell, Array.getElem?_modify, this]
  have onV : Only g W1 V := by rw [hV]; exact only_set _ _ _ _
  have hVs : V.heap.size = w.heap.size + 1 := onV.2.1.trans hWs
  have hKV : Hid (Kpt (fun b => b = g) w V) := hid ((Kpt.of_below bW).trans (by rw [hV]; exact Kpt.of_set (F := fun b => b = g) W1 (p := ⟨g, 1, none⟩) rfl _))
  have hboxV := (onV.2.2 w.heap.size (by omega)).trans hbox
  have hatV := (onV.2.2 ub hubg).trans hat1
  obtain ⟨b0, b1, b2⟩ := cell3 hatV
  have bfr : ∀ j, V.frozen? ⟨ub, j, none⟩ = false := fun j => by simp [World.frozen?, hatV]
  obtain ⟨x0, x1, x2, x3, x4, x5, x6⟩ := cell7 hboxV
  have hOwnV : Hid (V.ownsRow B 26 7 (.slice vo N vc) N uxs) := hid (by
    rw [← hNN]
    exact own_blkS hownr1 (fun j hj => onV.2.2 j (fun e => by
      subst e
      obtain ⟨_, ⟨h2, _⟩ | ⟨g', cap, cur, h2, _, hcc, _⟩⟩ := hO0.out
      · rw [h2] at hj; simp [Value.ownBlock] at hj
      · rw [h2] at hj
        simp only [Value.ownBlock, Option.some.injEq] at hj
        subst hj
        exact hR.ne_g hcc (by decide) rfl)))
  have hOV : Hid (V.ownsRow B 67 1 (.slice (some ⟨q, 0, none⟩) m c) m (us'.reverse.map ptrU)) := hid (by
    exact own_blkS hown1 (fun j hj => onV.2.2 j (fun e => by
      subst e
      obtain ⟨_, c', hc'⟩ := hR.oty j hj
      exact hR.ne_g hc' (by decide) rfl)))
  have hBV : Hid (B ≤ V.heap.size) := hid (by have := hR.gl; omega)
  have hcr : Hid (∀ (j : Nat) (u : Value), ([.int .i64 0, .bool false, .slice none 0 0, .string ⟨#[]⟩, .int .i64 0, .slice none 0 0, .slice none 0 0] : List Value)[j]? = some u → (V.alloc (.cells #[.int .i64 0, .bool false, .slice none 0 0, .string ⟨#[]⟩, .int .i64 0, .slice none 0 0, .slice none 0 0] 26)).drew.cell? ((⟨V.heap.size, 0, none⟩ : Addr).add j) = some u) := hid (World.news_of_block (heap_alloc_new V _))
  have honez : ∀ u ∈ ([.int .i64 0, .bool false, .slice none 0 0, .string ⟨#[]⟩, .int .i64 0, .slice none 0 0, .slice none 0 0] : List Value), u.oneCell' = true := by decide
  have hxl : Hid (uxs.length = N * 7) := hid (by rw [← hNN]; exact hxl0)
  have hvb : ∀ j, Value.ownBlock (.slice vo o.its.length vc) = some j → j < w.heap.size ∧ j ≠ ub := fun j hj => by
    refine ⟨(World.ownsRow.lt hrow.own j hj).2, fun e => ?_⟩
    subst e
    obtain ⟨_, ⟨h2, _⟩ | ⟨g', cap, cur, h2, _, hcc, _⟩⟩ := hO0.out
    · rw [h2] at hj; simp [Value.ownBlock] at hj
    · rw [h2] at hj
      simp only [Value.ownBlock, Option.some.injEq] at hj
      subst hj
      rw [hrow.at_] at hcc
      simp only [Option.some.injEq, Obj.cells.injEq] at hcc
      exact absurd hcc.2.1 (by decide)
  rw [hNN] at hvb
  have hvbH := hid hvb
  have hfar : Hid (∀ (g2 : Nat) (w2 : World), (V.alloc (.cells #[.int .i64 0, .bool false, .slice none 0 0, .string ⟨#[]⟩, .int .i64 0, .slice none 0 0, .slice none 0 0] 26)).drew.grownBy w2 (Value.ownBlock (.slice vo N vc)) → (Value.ownBlock (.slice vo N vc) = some g2 ∨ g2 = V.heap.size + 1) →
      w2.cell? ⟨ub, 0, none⟩ = some (.int .i32 (o.c.toNat : Int)) ∧ w2.cell? ⟨ub, 1, none⟩ = some (.slice vo N vc) ∧ w2.cell? ⟨ub, 2, none⟩ = some (.bool o.bar) ∧ (∀ j, w2.frozen? ⟨ub, j, none⟩ = false) ∧ w2.cell? ⟨w.heap.size, 0, none⟩ = some (.int .i64 k) ∧ w2.cell? ⟨w.heap.size, 1, none⟩ = some (.bool neg) ∧ w2.cell? ⟨w.heap.size, 2, none⟩ = some (.slice od ld cd) ∧ w2.cell? ⟨w.heap.size, 3, none⟩ = some (.string nm) ∧ w2.cell? ⟨w.heap.size, 4, none⟩ = some (.int .i64 n) ∧ w2.cell? ⟨w.heap.size, 5, none⟩ = some (.slice ol ll cl) ∧ w2.cell? ⟨w.heap.size, 6, none⟩ = some (.slice ob lb cb) ∧ ub ≠ g2 ∧ g2 ≠ ub ∧ w.heap.size ≠ g2 ∧ Hid (w2.heap[ub]? = some (.cells #[.int .i32 (o.c.toNat : Int), .slice vo N vc, .bool o.bar] 101 (0, 0)))) := hid (fun g2 w2 hgr hg2 => by
    have hzz : (V.alloc (.cells #[.int .i64 0, .bool false, .slice none 0 0, .string ⟨#[]⟩, .int .i64 0, .slice none 0 0, .slice none 0 0] 26)).drew.heap.size = V.heap.size + 1 := by simp
    have hn1 : ub ≠ g2 := fun e => by
      rcases hg2 with h2 | h2
      · exact (hvb g2 h2).2 e.symm
      · omega
    have hn2 : w.heap.size ≠ g2 := fun e => by
      rcases hg2 with h2 | h2
      · have := (hvb g2 h2).1; omega
      · omega
    have ha : ∀ j, j < V.heap.size → (V.alloc (.cells #[.int .i64 0, .bool false, .slice none 0 0, .string ⟨#[]⟩, .int .i64 0, .slice none 0 0, .slice none 0 0] 26)).drew.heap[j]? = V.heap[j]? := fun j hj => (((Below.refl V.heap.size V).alloc (Nat.le_refl _) _).block j hj)
    have q1 : w2.heap[ub]? = V.heap[ub]? := (hgr.block ub (by omega) (fun e => (hvb ub e.symm).2 rfl)).trans (ha ub (by omega))
    have q2 : w2.heap[w.heap.size]? = V.heap[w.heap.size]? := (hgr.block _ (by omega) (fun e => by have := (hvb _ e.symm).1; omega)).trans (ha _ (by omega))
    rw [hatV] at q1
    rw [hboxV] at q2
    obtain ⟨p0, p1, p2⟩ := cell3 q1
    obtain ⟨t0, t1, t2, t3, t4, t5, t6⟩ := cell7 q2
    refine ⟨p0, ?_, p2, fun j => by simp [World.frozen?, q1], t0, t1, t2, t3, t4, t5, t6, hn1, hn1.symm, hn2, hid ?_⟩
    · rw [← hNN]; exact p1
    · rw [← hNN]; exact q1)
  have hfin : Hid (∀ (g2 cap2 : Nat) (w2 WC : World), (V.alloc (.cells #[.int .i64 0, .bool false, .slice none 0 0, .string ⟨#[]⟩, .int .i64 0, .slice none 0 0, .slice none 0 0] 26)).drew.grownBy w2 (Value.ownBlock (.slice vo N vc)) → (Value.ownBlock (.slice vo N vc) = some g2 ∨ g2 = V.heap.size + 1) →
      Fin B g2 ub cap2 N (uxs ++ [.int .i64 k, .bool neg, .slice od ld cd, .string nm, .int .i64 n, .slice ol ll cl, .slice ob lb cb]) (.int .i32 (o.c.toNat : Int)) (.bool o.bar) w2 WC → ∃ g2 cap2, RdS B g Z r st us' (.slice (some ⟨q, 0, none⟩) m c) WC ∧ RowM B Z WC ⟨o.c, o.its ++ [T], o.bar⟩ ⟨ub, .slice (some ⟨g2, 0, none⟩) (N + 1) cap2, uxs ++ [.int .i64 k, .bool neg, .slice od ld cd, .string nm, .int .i64 n, .slice ol ll cl, .slice ob lb cb]⟩ ∧ Apart ⟨ub, .slice (some ⟨g2, 0, none⟩) (N + 1) cap2, uxs ++ [.int .i64 k, .bool neg, .slice od ld cd, .string nm, .int .i64 n, .slice ol ll cl, .slice ob lb cb]⟩ us' ∧ Kpt (FR B g) w WC) := hid (fun g2 cap2 w2 WC hgr hg2 hF => by
    have hbA : Below V.heap.size V (V.alloc (.cells #[.int .i64 0, .bool false, .slice none 0 0, .string ⟨#[]⟩, .int .i64 0, .slice none 0 0, .slice none 0 0] 26)).drew := ((Below.refl V.heap.size V).alloc (Nat.le_refl _) _).drew
    have hzz : (V.alloc (.cells #[.int .i64 0, .bool false, .slice none 0 0, .string ⟨#[]⟩, .int .i64 0, .slice none 0 0, .slice none 0 0] 26)).drew.heap.size = V.heap.size + 1 := by simp
    subst hNN
    subst hmm
    exact ⟨g2, cap2, put_mem hR hTV (hRV.below hbA) (hKV.out.trans (Kpt.of_below hbA)) rfl (own_below hOV.out hbA) hgr (hg2.elim .inl (fun e => .inr ⟨by omega, by omega⟩)) hF⟩)
  have n1 : N < N + 1 := by omega
  have n2 : (N : Int) < (N : Int) + 1 := by omega
  have n3 : ¬ ((N : Int) < 0) := by omega
  have n4 : (0 : Int) ≤ (N : Int) := by omega
  have honc : ∀ u ∈ ([.int .i64 k, .bool neg, .slice od ld cd, .string nm, .int .i64 n, .slice ol ll cl, .slice ob lb cb] : List Value), u.oneCell' = true := by
    intro u hu
    simp only [List.mem_cons, List.not_mem_nil, or_false] at hu
    rcases hu with rfl | rfl | rfl | rfl | rfl | rfl | rfl <;> rfl
  have hmz : (m : Int) ≤ 800000 := by omega
  have hmc : (m : Int) ≤ (c : Int) := by omega
  have hW1H := hid hW1
  have hVH := hid hV
  have hRVH := hid hRV
  rw [hNN] at b1
  have hok2 := hid hok
  clear hvb hxl0 hR hTV hrow hap hst hcell hown hw hok hat hat1 bW hR1 hownr1 hown1 hV onV hboxV hatV hRV z0 z1 f0 f1 hbox hW1
  obtain ⟨R, hRe⟩ : ∃ R, putL o T r = R := ⟨_, rfl⟩
  rw [hRe]
  have hRp := hid hRe
  clear hRe
  unfold putL at hRp
  go_enter Tryz.func30, Tryz.ntmps30
  go_upto_region 1 with fail
  rw [← hW1H.out]
  go_upto_region 4 with fail
  rw [← hVH.out]
  go_cut [] from 29 to 40 (fun wx => ∃ g2 cap2, RdS B g Z r st us' (.slice (some ⟨q, 0, none⟩) m c) wx ∧ RowM B Z wx ⟨o.c, o.its ++ [T], o.bar⟩ ⟨ub, .slice (some ⟨g2, 0, none⟩) (N + 1) cap2, uxs ++ [.int .i64 k, .bool neg, .slice od ld cd, .string nm, .int .i64 n, .slice ol ll cl, .slice ob lb cb]⟩ ∧ Apart ⟨ub, .slice (some ⟨g2, 0, none⟩) (N + 1) cap2, uxs ++ [.int .i64 k, .bool neg, .slice od ld cd, .string nm, .int .i64 n, .slice ol ll cl, .slice ob lb cb]⟩ us' ∧ Kpt (FR B g) w wx)
  case first =>
    go_region_law (
      refine step_append_lies _ rfl (.tmp 32) (.tmp 35) 23 rfl B 26 iT (.agg #[.int .i64 0, .bool false, .slice none 0 0, .string ⟨#[]⟩, .int .i64 0, .slice none 0 0, .slice none 0 0]) 7 112 Tryz.underlying23 hT1 hT2 hT3 hT4 rfl (by decide) (.slice vo N vc) N uxs (by simp [Act.eval, Act.put]) ((hOwnV.out.alloc _).drew) ⟨V.heap.size, 0, none⟩ 1 1 [.int .i64 0, .bool false, .slice none 0 0, .string ⟨#[]⟩, .int .i64 0, .slice none 0 0, .slice none 0 0] (by simp [Act.eval, Act.put]) rfl hcr.out honez (by decide) (by unfold maxLen; omega) (by omega) (by simp; have := hBV.out; omega) (V.heap.size + 1) (by simp) (fun g2 cap2 w2 hown hgrow hg2 hlt2 => ?_)
      have hxl2 := hxl.out
      have e0 : w2.cell? ⟨g2, N * 7, none⟩ = some (.int .i64 0) := by rw [World.ownsRow.cellAt hown _ (by omega), ← hxl2]; simp
      have e1 : w2.cell? ⟨g2, N * 7 + 1, none⟩ = some (.bool false) := by rw [World.ownsRow.cellAt hown _ (by omega), ← hxl2]; simp
      have e2 : w2.cell? ⟨g2, N * 7 + 2, none⟩ = some (.slice none 0 0) := by rw [World.ownsRow.cellAt hown _ (by omega), ← hxl2]; simp
      have e3 : w2.cell? ⟨g2, N * 7 + 3, none⟩ = some (.string ⟨#[]⟩) := by rw [World.ownsRow.cellAt hown _ (by omega), ← hxl2]; simp
      have e4 : w2.cell? ⟨g2, N * 7 + 4, none⟩ = some (.int .i64 0) := by rw [World.ownsRow.cellAt hown _ (by omega), ← hxl2]; simp
      have e5 : w2.cell? ⟨g2, N * 7 + 5, none⟩ = some (.slice none 0 0) := by rw [World.ownsRow.cellAt hown _ (by omega), ← hxl2]; simp
      have e6 : w2.cell? ⟨g2, N * 7 + 6, none⟩ = some (.slice none 0 0) := by rw [World.ownsRow.cellAt hown _ (by omega), ← hxl2]; simp
      have ef := World.ownsRow.frozenAt hown
      have hfx := hfar.out g2 w2 hgrow hg2
      obtain ⟨r0, r1, r2, rf, s0, s1, s2, s3, s4, s5, s6, hne1, hne2, hne3, hrw2⟩ := hfx
      clear hxl2)
    all_goals (go_wp2_with fail; go_meet)
    all_goals first
      | with_reducible exact hfin.out g2 cap2 w2 _ hgrow hg2 (finA hown hxl.out hrw2.out hne1 _ _ _ _ _ _ _ honc)
      | with_reducible exact hfin.out g2 cap2 w2 _ hgrow hg2 (finB hown hxl.out hrw2.out hne1 _ _ _ _ _ _ _ honc)
  case rest =>
    obtain ⟨g2, cap2, hS2, hRow2, hAp2, hB2⟩ := hcut
    have hlN : N + 1 = (o.add T).its.length := by simp [Op.add, hNN]
    rw [hlN] at hRow2 hAp2
    change RowM B Z wc (o.add T) _ at hRow2
    have hvc2 := hid (show (o.add T).its.length ≤ cap2 by
      obtain ⟨o3, c3, e3, h3⟩ := own_sl hRow2.own
      simp only [Value.slice.injEq, true_and] at e3
      obtain ⟨_, rfl⟩ := e3
      exact h3)
    have hl9 : (o.add T).its.length ≤ 900000 := by omega
    have hct := okO_lt hok2.out
    have hTw : ∀ w', Kpt (fun b => b = g) wc w' → Tabs w' := fun w' hk => hTb.below (hb.trans (((hB2.mono (fun _ h => h)).trans (hk.mono (fun _ h => .inl h))).below hb.size (fun k hk' => hk'.elim (fun e => e ▸ hWg) (fun e => Nat.le_trans hWB e))))
    have hTwH := hid hTw
    have c1 := skip_w g r _ o.c _ rfl hct wc hS2.rdr (hTw wc (Kpt.refl _ _))
    obtain ⟨y0, y1, y2⟩ := cell3 hRow2.at_
    have hS2H := hid hS2
    have hRow2H := hid hRow2
    have hAp2H := hid hAp2
    have hB2H := hid hB2
    clear hfin hfar hcr hxl hvbH hOV hOwnV hKV x0 x1 x2 x3 x4 x5 x6 b0 b1 b2 bfr hO0 a0 a1 af0 af1 hcell1 hW1H hVH hRVH hBV hWs hVs honez honc n1 n2 n3 n4 hTb hTw hS2 hRow2 hAp2 hB2 hvc
    obtain ⟨sb, hsb⟩ : ∃ sb, skB o.c r = sb := ⟨_, rfl⟩
    obtain ⟨r1, hr1⟩ : ∃ r1, skR o.c r = r1 := ⟨_, rfl⟩
    have hr1n : Hid (sb = false → r1 = r) := hid (fun e => by rw [← hr1]; exact skR_no (by rw [hsb, e]))
    rw [hsb, hr1] at c1
    have hRq : Hid ((if sb = true then (hdO (wholeL (o.add T)), r1) else if o.bar = true then (Hd.no, r) else if skB 44 r = true then (Hd.rw (o.add T), skR 44 r) else if o.c = 93 ∧ skB 124 r = true then (Hd.rw ⟨o.c, o.its ++ [T], true⟩, skR 124 r) else (Hd.no, r)) = R) := hid (by rw [← hRp.out, hsb, hr1])
    clear hRp hsb hr1
    have hl9H := hid hl9
    have hcbar : (o.add T).bar = o.bar := rfl
    have hcc : (o.add T).c = o.c := rfl
    rw [hcbar, hcc] at *
    clear hlN hl9 hcbar hcc hNN hmm hN hm
    go_wp2_with fail
    refine c1.mono ?_
    rintro e w1 ⟨rfl, h1, k1⟩
    have hS3 := hid (hS2H.out.on h1 k1 (fun _ hk => hk) (fun k hk => ⟨Nat.lt_of_lt_of_le (hS2H.out.zl k hk) k1.size, .inl hk⟩))
    have hRow3 := hid (hRow2H.out.kpt hS2H.out k1)
    have hB3 := hid (hB2H.out.trans (k1.mono (fun _ h => .inl h)))
    have hTw1 := hTwH.out w1 k1
    have hk1 := hid k1
    clear y0 y1 y2 c1 h1 k1
    obtain ⟨y0, y1, y2⟩ := cell3 hRow3.out.at_
    cases sb with
    | true =>
      have hR2 : R = (hdO (wholeL (o.add T)), r1) := by rw [← hRq.out, if_pos rfl]
      subst hR2
      have cw := whole_w _ ub (o.add T) _ cap2 w1 hRow3.out.at_ hvc2.out hRow3.out.tr hl9H.out (by obtain ⟨q1, q2⟩ := hok2.out; exact ⟨q1, fun e => ⟨by simp [Op.add], (q2 e).2⟩⟩) (fun k hk => hk.elim (hS3.out.zl k) (fun e => (hRow3.out.lt k (.inr e)).2))
      clear hRq hr1n hTw1
      go_wp2_with fail
      refine cw.mono ?_
      rintro e w2 ⟨v2, rfl, hL2, b2⟩
      have hfinS := hid (put_end hS3.out hRow3.out hAp2H.out hL2 b2)
      have hfinB := hid (hB3.out.trans (Kpt.of_below b2))
      clear cw hL2 b2
      go_wp2
      go_ret
      exact ⟨v2, rfl, hfinS.out, hfinB.out⟩
    | false =>
      have hr1e := hr1n.out rfl
      subst hr1e
      obtain ⟨bb, hbb⟩ : ∃ bb, o.bar = bb := ⟨_, rfl⟩
      replace y2 : w1.cell? ⟨ub, 2, none⟩ = some (.bool bb) := by rw [← hbb]; exact y2
      have hRq2 := hRq.out
      rw [if_neg (by simp), hbb] at hRq2
      have hbbH := hid hbb
      clear hbb hRq
      cases bb with
      | true =>
        have hR2 : R = (Hd.no, r1) := by rw [← hRq2, if_pos rfl]
        clear hRq2
        subst hR2
        have hfinS : Hid (StH B g r1 st Hd.no .nilIface w1) := hid ⟨Z, us', _, hS3.out, rfl⟩
        clear hr1n hTw1
        go_wp2
        go_ret
        exact ⟨_, rfl, hfinS.out, hB3.out⟩
      | false =>
        rw [if_neg (by simp)] at hRq2
        have c2 := skip_w g r1 _ 44 44 rfl (by decide) w1 hS3.out.rdr hTw1
        obtain ⟨s4, hs4⟩ : ∃ s4, skB 44 r1 = s4 := ⟨_, rfl⟩
        obtain ⟨q4, hq4⟩ : ∃ q4, skR 44 r1 = q4 := ⟨_, rfl⟩
        have hq4n : Hid (s4 = false → q4 = r1) := hid (fun e => by rw [← hq4]; exact skR_no (by rw [hs4, e]))
        rw [hs4, hq4] at c2 hRq2
        have hRq3 := hid hRq2
        clear hRq2 hs4 hq4 hr1n
        go_wp2_with fail
        refine c2.mono ?_
        rintro e w2 ⟨rfl, h2, k2⟩
        have hS4 := hid (hS3.out.on h2 k2 (fun _ hk => hk) (fun k hk => ⟨Nat.lt_of_lt_of_le (hS3.out.zl k hk) k2.size, .inl hk⟩))
        have hRow4 := hid (hRow3.out.kpt hS3.out k2)
        have hB4 := hid (hB3.out.trans (k2.mono (fun _ h => .inl h)))
        have hTw2 := hTwH.out w2 (hk1.out.trans k2)
        clear y0 y1 y2 c2 h2 k2 hTw1
        obtain ⟨y0, y1, y2⟩ := cell3 hRow4.out.at_
        cases s4 with
        | true =>
          have hR2 : R = (Hd.rw (o.add T), q4) := by rw [← hRq3.out, if_pos rfl]
          subst hR2
          have hfinS : Hid (StH B g q4 st (.rw (o.add T)) (.iface 67 (.pointer (some ⟨ub, 0, none⟩))) w2) := hid ⟨Z, us', _, hS4.out, _, rfl, hRow4.out, hAp2H.out⟩
          clear hRq3 hq4n hTw2
          go_wp2
          go_ret
          exact ⟨_, rfl, hfinS.out, hB4.out⟩
        | false =>
          have hq4e := hq4n.out rfl
          subst hq4e
          have hRq4 := hRq3.out
          rw [if_neg (by simp)] at hRq4
          clear hRq3
          obtain ⟨ci, hci⟩ : ∃ ci : Int, (o.c.toNat : Int) = ci := ⟨_, rfl⟩
          replace y0 : w2.cell? ⟨ub, 0, none⟩ = some (.int .i32 ci) := by rw [← hci]; exact y0
          have hRq5 := hid hRq4
          have hciH := hid hci
          clear hRq4 hci
          by_cases h93 : o.c = 93
          · have hci93 : ci = 93 := by rw [← hciH.out, h93]; rfl
            subst hci93
            have c3 := skip_w g q4 _ 124 124 rfl (by decide) w2 hS4.out.rdr hTw2
            obtain ⟨s5, hs5⟩ : ∃ s5, skB 124 q4 = s5 := ⟨_, rfl⟩
            obtain ⟨q5, hq5⟩ : ∃ q5, skR 124 q4 = q5 := ⟨_, rfl⟩
            have hq5n : Hid (s5 = false → q5 = q4) := hid (fun e => by rw [← hq5]; exact skR_no (by rw [hs5, e]))
            have hRq6 := hRq5.out
            rw [hs5, hq5] at c3 hRq6
            have hRq7 := hid hRq6
            have h93H := hid h93
            clear hRq5 hRq6 hs5 hq5 hq4n h93 hciH
            go_wp2_with fail
            refine c3.mono ?_
            rintro e w3 ⟨rfl, h3, k3⟩
            have hS5 := hid (hS4.out.on h3 k3 (fun _ hk => hk) (fun k hk => ⟨Nat.lt_of_lt_of_le (hS4.out.zl k hk) k3.size, .inl hk⟩))
            have hRow5 := hid (hRow4.out.kpt hS4.out k3)
            have hB5 := hid (hB4.out.trans (k3.mono (fun _ h => .inl h)))
            clear y0 y1 y2 c3 h3 k3 hTw2
            obtain ⟨y0, y1, y2⟩ := cell3 hRow5.out.at_
            have yf : w3.frozen? ⟨ub, 2, none⟩ = false := by simp [World.frozen?, hRow5.out.at_]
            cases s5 with
            | true =>
              have hR2 : R = (Hd.rw ⟨o.c, o.its ++ [T], true⟩, q5) := by rw [← hRq7.out, if_pos ⟨h93H.out, rfl⟩]
              subst hR2
              have hpb := put_bar hS5.out (c := o.c) (its := o.its ++ [T]) (bar := o.bar) hRow5.out hAp2H.out
              have hfinS : Hid (StH B g q5 st (.rw ⟨o.c, o.its ++ [T], true⟩) (.iface 67 (.pointer (some ⟨ub, 0, none⟩))) (w3.setCell ⟨ub, 2, none⟩ (.bool true))) := hid ⟨Z, us', _, hpb.1, _, rfl, hpb.2, hAp2H.out⟩
              have hB6 : Hid (Kpt (FR B g) w (w3.setCell ⟨ub, 2, none⟩ (.bool true))) := hid (hB5.out.trans (Kpt.of_set (F := FR B g) w3 (p := ⟨ub, 2, none⟩) (.inr hRow5.out.lo) _))
              clear hRq7 hq5n hpb
              go_wp2
              go_ret
              exact ⟨_, rfl, hfinS.out, hB6.out⟩
            | false =>
              have hq5e := hq5n.out rfl
              subst hq5e
              have hR2 : R = (Hd.no, q5) := by rw [← hRq7.out, if_neg (by simp)]
              subst hR2
              have hfinS : Hid (StH B g q5 st Hd.no .nilIface w3) := hid ⟨Z, us', _, hS5.out, rfl⟩
              clear hRq7 hq5n
              go_wp2
              go_ret
              exact ⟨_, rfl, hfinS.out, hB5.out⟩
          · have hci93 : (ci == 93) = false := by
              have : ci ≠ 93 := fun e => h93 (UInt8.toNat_inj.1 (by have h9 := hciH.out; have : (93 : UInt8).toNat = 93 := rfl; omega))
              simp [this]
            have hR2 : R = (Hd.no, q4) := by rw [← hRq5.out, if_neg (fun e => h93 e.1)]
            subst hR2
            have hfinS : Hid (StH B g q4 st Hd.no .nilIface w2) := hid ⟨Z, us', _, hS4.out, rfl⟩
            clear hRq5 hq4n hTw2 h93 hciH
            go_wp2
            go_ret
            exact ⟨_, rfl, hfinS.out, hB4.out⟩
end Go.Proofs.YtjacoodfhkaioabGreatDoor
namespace Go.Proofs.YtjacoodfhkaioabGreatDoor
open Go.ChangeShapes Go.WideShapes Go.ChangeAt Go.RowKit Go.Shelf
set_option linter.unusedSimpArgs false
set_option linter.unusedVariables false
set_option maxRecDepth 2000

theorem as_rr (x : Value) (w : World) : (Instr.typeAssert (.iface 67 x) 57 67 true).run Tryz.prog w = .ok (.tuple #[x, .bool true]) w := by kernel_rfl
theorem as_er (x : Value) (w : World) : (Instr.typeAssert (.iface 26 x) 57 67 true).run Tryz.prog w = .ok (.tuple #[.pointer none, .bool false]) w := by kernel_rfl
theorem as_nr (w : World) : (Instr.typeAssert .nilIface 57 67 true).run Tryz.prog w = .ok (.tuple #[.pointer none, .bool false]) w := by kernel_rfl
theorem as_ne (w : World) : (Instr.typeAssert .nilIface 57 26 true).run Tryz.prog w = .ok (.tuple #[.agg #[.int .i64 0, .bool false, .slice none 0 0, .string ⟨#[]⟩, .int .i64 0, .slice none 0 0, .slice none 0 0], .bool false]) w := by kernel_rfl
theorem infoPR : (Tryz.prog.info? 67).map (fun i => (i.zero, i.size, i.bytes)) = some (some (.pointer none), 1, 8) := by kernel_rfl
/-- a row is opened -/
theorem push_mem {B g : Nat} {Z : Nat → Prop} {r : List UInt8} {st : List Op} {us : List Un} {ov : Value} {w w2 : World} {o : Op} {u : Un} {g2 c2 : Nat} (hS : RdS B g Z r st us ov w) (hR : RowM B Z w o u) (hA : Apart u us) (hg : (w.alloc (.cells #[ptrU u] 67)).grownBy w2 ov.ownBlock) (hg2 : ov.ownBlock = some g2 ∨ g2 = w.heap.size + 1)
    (hown : w2.ownsRow B 67 1 (.slice (some ⟨g2, 0, none⟩) (st.length + 1) c2) (st.length + 1) (us.reverse.map ptrU ++ [ptrU u])) :
    w2.cell? ⟨g, 1, none⟩ = some ov ∧ w2.frozen? ⟨g, 1, none⟩ = false ∧ RdS B g Z r (o :: st) (u :: us) (.slice (some ⟨g2, 0, none⟩) (st.length + 1) c2) (w2.setCell ⟨g, 1, none⟩ (.slice (some ⟨g2, 0, none⟩) (st.length + 1) c2)) ∧ Kpt (FR B g) w (w2.setCell ⟨g, 1, none⟩ (.slice (some ⟨g2, 0, none⟩) (st.length + 1) c2)) := by
  have hsz : (w.alloc (.cells #[ptrU u] 67)).heap.size = w.heap.size + 1 := by simp
  have hs2 := hg.size
  have ha : ∀ q, q < w.heap.size → (w.alloc (.cells #[ptrU u] 67)).heap[q]? = w.heap[q]? := fun q hq => ((Below.refl w.heap.size w).alloc (Nat.le_refl _) _).block q hq
  have key : ∀ q, q < w.heap.size → ov.ownBlock ≠ some q → w2.heap[q]? = w.heap[q]? := fun q hq hn => (hg.block q (by omega) (fun e => hn e.symm)).trans (ha q hq)
  have hgo : ov.ownBlock ≠ some g := fun e => by
    obtain ⟨_, c, hc⟩ := hS.oty g e
    exact hS.ne_g hc (by decide) rfl
  have hgl := hS.rdr.lt
  have hg2g : g2 ≠ g := fun e => by
    rcases hg2 with h2 | h2
    · exact hgo (e ▸ h2)
    · omega
  have hgw2 := (key g hgl hgo).trans hS.rdr.at_
  have hz : ∀ q, Z q → w2.heap[q]? = w.heap[q]? := fun q hq => key q (hS.zl q hq) (fun e => hS.zo q e hq)
  have hu : ∀ (o' : Op) (u' : Un), RowM B Z w o' u' → ∀ q, u'.owns q → w2.heap[q]? = w.heap[q]? ∧ q ≠ g := fun o' u' h' q hq => by
    obtain ⟨c, e, hc, he⟩ := h'.ty q hq
    refine ⟨key q (h'.lt q hq).2 (fun e2 => ?_), hS.ne_g hc (by rcases he with rfl | rfl <;> decide)⟩
    obtain ⟨_, c', hc'⟩ := hS.oty q e2
    rw [hc] at hc'
    simp only [Option.some.injEq, Obj.cells.injEq] at hc'
    obtain ⟨_, rfl, _⟩ := hc'
    rcases he with he | he <;> revert he <;> decide
  have on1 := only_set w2 g 1 (.slice (some ⟨g2, 0, none⟩) (st.length + 1) c2)
  have hgx : (w2.setCell ⟨g, 1, none⟩ (.slice (some ⟨g2, 0, none⟩) (st.length + 1) c2)).heap[g]? = some (.cells #[.string (bs r), .slice (some ⟨g2, 0, none⟩) (st.length + 1) c2] 49 (0, 0)) := (heap_put hgw2 _).2
  refine ⟨by simp [World.cell?, hgw2], by simp [World.frozen?, hgw2], ?_⟩
  generalize (w2.setCell ⟨g, 1, none⟩ (.slice (some ⟨g2, 0, none⟩) (st.length + 1) c2)) = W at *
  have hWs : W.heap.size = w2.heap.size := on1.2.1
  have hzW : ∀ q, Z q → W.heap[q]? = w.heap[q]? := fun q hq => (on1.2.2 q (fun e => hS.zg (e ▸ hq))).trans (hz q hq)
  refine ⟨⟨⟨hgx⟩, ?_, ⟨u, us, rfl, hR.on hzW (fun q hq => (on1.2.2 q (hu o u hR q hq).2).trans (hu o u hR q hq).1) (fun _ h => h) hR.nz, hA, hS.stk.on hzW (fun u' hu' q hq => ?_) (fun _ h => h) (fun u' hu' q hq => ?_)⟩, by have := hS.gl; omega, fun q hq => by have := hS.zl q hq; omega, hS.zb, hS.zg, fun q hq hzq => ?_⟩, ?_⟩
  · simp only [List.length_cons, List.reverse_cons, List.map_append, List.map_cons, List.map_nil]
    exact own_blkS hown (fun q hq => on1.2.2 q (fun e => by simp only [Value.ownBlock, Option.some.injEq] at hq; exact hg2g (hq.trans e)))
  · obtain ⟨o', ho'⟩ := hS.stk.mem u' hu'
    exact (on1.2.2 q (hu o' u' ho' q hq).2).trans (hu o' u' ho' q hq).1
  · obtain ⟨o', ho'⟩ := hS.stk.mem u' hu'
    exact ho'.nz q hq
  · simp only [Value.ownBlock, Option.some.injEq] at hq
    subst hq
    rcases hg2 with h2 | h2
    · exact hS.zo _ h2 hzq
    · have := hS.zl _ hzq; omega
  · refine ⟨on1.1.os.trans hg.os, on1.1.tape.trans hg.tape, on1.1.output.trans hg.output, by omega, fun q hq hn => ?_⟩
    exact (on1.2.2 q (fun e => hn (.inl e))).trans (key q hq (fun e => hn (.inr (hS.oty q e).1)))
theorem tv_only {Z : Nat → Prop} {S g : Nat} {w w' : World} {T : Tm} {v : Value} (h : TV Z w T v) (hz : ∀ q, Z q → q < w.heap.size ∧ q ≠ g ∧ S ≤ q) (ho : Only g w w') : TV (fun k => S ≤ k ∧ k < w'.heap.size) w' T v :=
  TV.mono (fun q _ hq => ⟨(hz q hq).2.2, by rw [ho.2.1]; exact (hz q hq).1⟩) _ _ (TV.zs (fun q hq => ho.2.2 q (hz q hq).2.1) _ _ h)
/-- the loop's state -/
def LpR (B g : Nat) (W1 : World) (R : Option Tm × List UInt8) (t : Nat) (v : Value) (wr : World) : Prop :=
  ∃ r1 st hd, StH B g r1 st hd v wr ∧ Lib.validD r1 = true ∧ okH hd ∧ (∀ o ∈ st, okOp o) ∧ wtS st + wtH hd + r1.length ≤ 65537 ∧ hdF hd r1 ≤ t ∧ goL r1 st hd = R ∧ Kpt (FR B g) W1 wr
theorem Rdr.of_only {g k : Nat} {r : List UInt8} {ov : Value} {w w' : World} (h : Rdr g r ov w) (ho : Only k w w') (hk : g ≠ k) : Rdr g r ov w' := ⟨(ho.2.2 g hk).trans h.at_⟩
/-- what was new stays new -/
theorem kpt_new {B g : Nat} {w W1 w2 w3 : World} (hb : Below w.heap.size w W1) (hB : w.heap.size ≤ B) (h : Kpt (FR B g) W1 w2) (h2 : Below w2.heap.size w2 w3 ∨ Only w.heap.size w2 w3) : Kpt (fun k => k = g) w w3 := by
  have hs := hb.size
  have h' : Kpt (fun k => k = g ∨ w.heap.size ≤ k) w w2 := ⟨h.os.trans hb.os, h.tape.trans hb.tape, h.output.trans hb.output, Nat.le_trans hs h.size, fun k hk hn => (h.block k (by omega) (fun e => hn (e.elim .inl (fun e2 => .inr (by omega))))).trans (hb.block k hk)⟩
  rcases h2 with h2 | h2
  · exact ⟨h2.os.trans h'.os, h2.tape.trans h'.tape, h2.output.trans h'.output, Nat.le_trans h'.size h2.size, fun k hk hn => (h2.block k (Nat.lt_of_lt_of_le hk h'.size)).trans (h'.block k hk (fun e => e.elim hn (fun e2 => by omega)))⟩
  · exact ⟨h2.1.os.trans h'.os, h2.1.tape.trans h'.tape, h2.1.output.trans h'.output, Nat.le_trans h'.size (Nat.le_of_eq h2.2.1.symm), fun k hk hn => (h2.2.2 k (by omega)).trans (h'.block k hk (fun e => e.elim hn (fun e2 => by omega)))⟩
/-- blocks from a place on -/
def ZnS (S : Nat) (w : World) : Nat → Prop := fun k => S ≤ k ∧ k < w.heap.size
/-- what read answers -/
def RdA (S : Nat) (w' : World) (o : Option Tm) (v : Value) : Prop :=
  match o with
  | none => v = .tuple #[.agg #[.int .i64 0, .bool false, .slice none 0 0, .string ⟨#[]⟩, .int .i64 0, .slice none 0 0, .slice none 0 0], .bool false]
  | some T => ∃ x, v = .tuple #[x, .bool true] ∧ TV (ZnS S w') w' T x
set_option maxHeartbeats 8000000 in
theorem read_w (g : Nat) (r : List UInt8) (w W : World) (hr : r.length ≤ 65536) (hR : Rdr g r (.slice none 0 0) w) (hv : Lib.validD r = true) (hT : TabsQ W) (hWg : W.heap.size ≤ g) (hb : Below W.heap.size W w) :
    Calls Tryz.prog 17 #[.pointer (some ⟨g, 0, none⟩)] w fun e w' => ∃ v, e = .returned v ∧ RdA w.heap.size w' (readL r).1 v ∧ (∃ ov, Rdr g (readL r).2 ov w') ∧ Kpt (fun k => k = g) w w' := by
  have hgl := hR.lt
  obtain ⟨W1, hW1⟩ : ∃ W1, W1 = w.alloc (.cells #[.int .i64 0, .bool false, .slice none 0 0, .string ⟨#[]⟩, .int .i64 0, .slice none 0 0, .slice none 0 0] 26) := ⟨_, rfl⟩
  have bW : Below w.heap.size w W1 := by rw [hW1]; exact (Below.refl _ w).alloc (Nat.le_refl _) _
  have hrb : Hid (W1.heap[w.heap.size]? = some (.cells #[.int .i64 0, .bool false, .slice none 0 0, .string ⟨#[]⟩, .int .i64 0, .slice none 0 0, .slice none 0 0] 26 (0, 0))) := hid (by rw [hW1]; exact heap_alloc_new w _)
  have hWs : W1.heap.size = w.heap.size + 1 := by rw [hW1]; simp
  have hR1 := hR.below bW
  have hb1 : Below W.heap.size W W1 := hb.trans (below_le bW hb.size)
  have hS1 : RdS (w.heap.size + 1) g (fun _ => False) r [] [] (.slice none 0 0) W1 := ⟨hR1, World.ownsRow_nil _ _ _ _, rfl, by omega, fun _ h => h.elim, fun _ h => h.elim, fun h => h, fun _ _ h => h⟩
  have c1 := begin_s (w.heap.size + 1) g (fun _ => False) r [] [] _ W1 W (by omega) hS1 hv hT hWg hb1
  obtain ⟨R, hRe⟩ : ∃ R, readL r = R := ⟨_, rfl⟩
  rw [hRe]
  rw [readL_go] at hRe
  have hReH := hid hRe
  have hW1H := hid hW1
  have hbWH := hid bW
  have hvH := hid hv
  have hTH := hid hT
  have hbH := hid hb1
  clear hRe hR hR1 hS1 hb1 hb bW hW1 hv hT
  go_enter Tryz.func17, Tryz.ntmps17
  go_upto_region 1 with fail
  rw [← hW1H.out]
  clear hW1H
  go_wp2_with fail
  refine c1.mono ?_
  rintro e w1 ⟨v1, rfl, hSt, hK⟩
  have hL1 : Hid (LpR (w.heap.size + 1) g W1 R (r.length + 1) v1 w1) := hid ⟨_, _, _, hSt, beginL_vd hvH.out, (beginL_ok r).1, fun o ho => by simp at ho, by
      have h1 := (beginL_ok r).2
      have h2 := beginL_le r
      have h3 := beginL_shr r
      simp only [wtS]
      omega, hdF_begin (Nat.le_refl _), hReH.out, hK⟩
  clear c1 hSt hK
  go_wp2_with fail
  go_loopg [4] (r.length + 1) (fun t v4 wr => Hid (LpR (w.heap.size + 1) g W1 R t v4 wr))
  case atStart => exact hL1
  case round =>
    obtain ⟨r1, st, hd, hSt, hvd, hok, hoks, hwt, hfu, hgo, hK⟩ := hrel.out
    clear hrel hL1
    have hrbr : wr.heap[w.heap.size]? = some (.cells #[.int .i64 0, .bool false, .slice none 0 0, .string ⟨#[]⟩, .int .i64 0, .slice none 0 0, .slice none 0 0] 26 (0, 0)) := (hK.block _ (by omega) (fun h => by rcases h with h | h <;> omega)).trans hrb.out
    obtain ⟨e0, e1, e2, e3, e4, e5, e6⟩ := cell7 hrbr
    have efr : ∀ j, wr.frozen? ⟨w.heap.size, j, none⟩ = false := (res7 hrbr).fr
    cases hd with
    | no =>
      obtain ⟨Z, us, ov, hS, rfl⟩ := hSt
      have hS2 := hid hS
      have a1 := as_nr
      have a2 := as_ne
      have hR2 : R = (none, r1) := hgo.symm
      subst hR2
      have hKH := hid hK
      have hrbH := hid hrbr
      clear hS hK hgo hok hoks hvd hwt hfu hReH e0 e1 e2 e3 e4 e5 e6 efr hrbr
      go_upto_region 8 with fail
      generalize hA : World.alloc wr _ = WA
      have bA : Below wr.heap.size wr WA := by rw [← hA]; exact (Below.refl _ wr).alloc (Nat.le_refl _) _
      have hrbA := (bA.block _ (Array.getElem?_eq_some_iff.1 hrbH.out).1).trans hrbH.out
      obtain ⟨e0, e1, e2, e3, e4, e5, e6⟩ := cell7 hrbA
      have efr : ∀ j, WA.frozen? ⟨w.heap.size, j, none⟩ = false := (res7 hrbA).fr
      have hp7 := heap_put7 hrbA (.int .i64 0) (.bool false) nilS (.string noS) (.int .i64 0) nilS nilS
      have hon := only_put WA w.heap.size (.int .i64 0) (.bool false) nilS (.string noS) (.int .i64 0) nilS nilS
      obtain ⟨q0, q1, q2, q3, q4, q5, q6⟩ := cell7 hp7
      have hRF := hid ((hS2.out.rdr.below bA).of_only hon (by omega))
      have hKF := hid (kpt_new hbWH.out (Nat.le_succ _) (hKH.out.trans (Kpt.of_below bA)) (.inr hon))
      clear hA hp7 hon hrbA bA
      go_wp2
      exact bodyPost_ret (v := .tuple #[.agg #[.int .i64 0, .bool false, nilS, .string noS, .int .i64 0, nilS, nilS], .bool false]) (by simp [results, Tryz.results17, go_sem, q0, q1, q2, q3, q4, q5, q6]) rfl ⟨_, rfl, rfl, ⟨ov, hRF.out⟩, hKF.out⟩
    | rw o =>
      obtain ⟨Z, us, ov, hS, u, rfl, hRow, hAp⟩ := hSt
      obtain ⟨i0, hi, hz0, hz1, hz2⟩ := info_parts infoPR
      have hstl := wt_len st
      obtain ⟨g2, c2, w2, hrn, hown, hgr, hg2, hlt2⟩ := run_append_lies (P := Tryz.prog) (wr.alloc (.cells #[ptrU u] 67)) 47 47 (w.heap.size + 1) 67 i0 (.pointer none) 1 8 Tryz.underlying47 hi hz0 hz1 hz2 rfl (by decide) ov st.length (us.reverse.map ptrU) (World.ownsRow.alloc hS.own _) ⟨wr.heap.size, 0, none⟩ 1 1 [ptrU u] rfl (cell_one_new _ _ _) (by intro y hy; simp at hy; subst hy; rfl) (by decide) (by unfold maxLen; omega) (by omega) (by simp; have := hS.gl; omega) (wr.heap.size + 1) (by simp)
      obtain ⟨p1, p2, hS2, hK2⟩ := push_mem hS hRow hAp hgr hg2 hown
      obtain ⟨z0, z1, f0, f1⟩ := hS.rdr.cells
      have a1 := as_rr (.pointer (some ⟨u.b, 0, none⟩))
      have hsh := beginL_shr r1
      have hle := beginL_le r1
      have hbb := hbH.out.trans (((hK.trans hK2).below hbH.out.size (fun k hk => hk.elim (fun e => e ▸ hWg) (fun e => by have := hbWH.out.size; have := hbH.out.size; omega))))
      have c2' := begin_s (w.heap.size + 1) g Z r1 (o :: st) (u :: us) _ _ W (by omega) hS2 hvd hTH.out hWg hbb
      have hnew : Hid (∀ v3 w3, StH (w.heap.size + 1) g (beginL r1).2 (o :: st) (bgH (beginL r1).1) v3 w3 → Kpt (FR (w.heap.size + 1) g) (w2.setCell ⟨g, 1, none⟩ (.slice (some ⟨g2, 0, none⟩) (st.length + 1) c2)) w3 → LpR (w.heap.size + 1) g W1 R (hdF (bgH (beginL r1).1) (beginL r1).2) v3 w3) := hid (fun v3 w3 h3 k3 => ⟨_, _, _, h3, beginL_vd hvd, (beginL_ok r1).1, fun o' ho' => (List.mem_cons.1 ho').elim (fun e => e ▸ hok) (hoks o'), by
        have h1 := (beginL_ok r1).2
        have hwt2 : wtS st + wtO o + r1.length ≤ 65537 := hwt
        show wtO o + wtS st + wtH (bgH (beginL r1).1) + (beginL r1).2.length ≤ 65537
        by_cases hno : bgH (beginL r1).1 = .no
        · rw [hno]; simp only [wtH]; omega
        · have := hsh hno; omega, Nat.le_refl _, by rw [← goL_rw]; exact hgo, (hK.trans hK2).trans k3⟩)
      have hfz : Hid (hdF (bgH (beginL r1).1) (beginL r1).2 < gk) := hid (by
        have := hdF_begin (r := r1) (Nat.le_refl _)
        simp only [hdF] at hfu
        omega)
      obtain ⟨oo, cc, rfl⟩ := own_form hS.own
      have hstz : Hid (st.length ≤ 65537) := hid (by omega)
      clear hS hRow hAp hgr hown hS2 hK2 hsh hle hbb hK hgo hok hoks hvd hwt hfu e0 e1 e2 e3 e4 e5 e6 efr hrbr hg2 hlt2 hstl
      unfold ptrU at hrn
      go_wp2_with (at_builtin; refine Lib.wpList_append_run _ rfl _ _ _ _ rfl _ _ rfl rfl _ _ hrn ?_)
      refine c2'.mono ?_
      rintro e w3 ⟨v3, rfl, hSt3, hK3⟩
      have hL3 := hid (hnew.out v3 w3 hSt3 hK3)
      clear c2' hSt3 hK3 hnew
      go_wp2
      go_roundg (hdF (bgH (beginL r1).1) (beginL r1).2)
      case measure => exact hfz.out
      case rel => exact hL3
    | tm T =>
      obtain ⟨Z, us, ov, hS, x, rfl, hTV⟩ := hSt
      obtain ⟨k, neg, od, ld, cd, nm, n, ol, ll, cl, ob, lb, cb, rfl⟩ := hTV.form
      have a1 := as_er (tmV k neg (.slice od ld cd) nm n (.slice ol ll cl) (.slice ob lb cb))
      have a2 := as_ee (tmV k neg (.slice od ld cd) nm n (.slice ol ll cl) (.slice ob lb cb))
      unfold tmV at a1 a2
      obtain ⟨WA, hWA⟩ : ∃ WA, WA = wr.alloc (.cells #[.int .i64 k, .bool neg, .slice od ld cd, .string nm, .int .i64 n, .slice ol ll cl, .slice ob lb cb] 26) := ⟨_, rfl⟩
      have bA : Below wr.heap.size wr WA := by rw [hWA]; exact (Below.refl _ wr).alloc (Nat.le_refl _) _
      have hxA : WA.heap[wr.heap.size]? = some (.cells #[.int .i64 k, .bool neg, .slice od ld cd, .string nm, .int .i64 n, .slice ol ll cl, .slice ob lb cb] 26 (0, 0)) := by rw [hWA]; exact heap_alloc_new wr _
      obtain ⟨x0, x1, x2, x3, x4, x5, x6⟩ := cell7 hxA
      have hSA : RdS (w.heap.size + 1) g Z r1 st us ov WA := hS.on (hS.rdr.below bA) (Kpt.of_below bA) (fun _ h => h) (fun q hq => ⟨Nat.lt_of_lt_of_le (hS.zl q hq) bA.size, .inl hq⟩)
      have hTA : TV Z WA T (tmV k neg (.slice od ld cd) nm n (.slice ol ll cl) (.slice ob lb cb)) := TV.zs (fun q hq => bA.block q (hS.zl q hq)) _ _ hTV
      have hKA := hK.trans (Kpt.of_below bA)
      obtain ⟨z0, z1, f0, f1⟩ := hSA.rdr.cells
      obtain ⟨oo, cc, rfl⟩ := own_form hSA.own
      have hrbA := (bA.block _ (Array.getElem?_eq_some_iff.1 hrbr).1).trans hrbr
      have hWAH := hid hWA
      cases st with
      | nil =>
        have hR2 : R = (some T, r1) := hgo.symm
        subst hR2
        obtain ⟨e0, e1, e2, e3, e4, e5, e6⟩ := cell7 hrbA
        have efr2 : ∀ j, WA.frozen? ⟨w.heap.size, j, none⟩ = false := (res7 hrbA).fr
        have hp7 := heap_put7 hrbA (.int .i64 k) (.bool neg) (.slice od ld cd) (.string nm) (.int .i64 n) (.slice ol ll cl) (.slice ob lb cb)
        have hon := only_put WA w.heap.size (.int .i64 k) (.bool neg) (.slice od ld cd) (.string nm) (.int .i64 n) (.slice ol ll cl) (.slice ob lb cb)
        obtain ⟨q0, q1, q2, q3, q4, q5, q6⟩ := cell7 hp7
        have hRF := hid (hSA.rdr.of_only hon (by omega))
        have hKF := hid (kpt_new hbWH.out (Nat.le_succ _) hKA (.inr hon))
        have hTF : Hid (TV (ZnS w.heap.size (((((((WA.setCell ⟨w.heap.size, 0, none⟩ (.int .i64 k)).setCell ⟨w.heap.size, 1, none⟩ (.bool neg)).setCell ⟨w.heap.size, 2, none⟩ (.slice od ld cd)).setCell ⟨w.heap.size, 3, none⟩ (.string nm)).setCell ⟨w.heap.size, 4, none⟩ (.int .i64 n)).setCell ⟨w.heap.size, 5, none⟩ (.slice ol ll cl)).setCell ⟨w.heap.size, 6, none⟩ (.slice ob lb cb))) (((((((WA.setCell ⟨w.heap.size, 0, none⟩ (.int .i64 k)).setCell ⟨w.heap.size, 1, none⟩ (.bool neg)).setCell ⟨w.heap.size, 2, none⟩ (.slice od ld cd)).setCell ⟨w.heap.size, 3, none⟩ (.string nm)).setCell ⟨w.heap.size, 4, none⟩ (.int .i64 n)).setCell ⟨w.heap.size, 5, none⟩ (.slice ol ll cl)).setCell ⟨w.heap.size, 6, none⟩ (.slice ob lb cb)) T (tmV k neg (.slice od ld cd) nm n (.slice ol ll cl) (.slice ob lb cb))) := hid (tv_only hTA (fun q hq => ⟨hSA.zl q hq, fun e => by have := hSA.zb q hq; omega, by have := hSA.zb q hq; omega⟩) hon)
        simp only [List.length_nil] at z1
        clear hS hTV hK hgo hok hoks hvd hwt hfu hReH hrbr hSA hTA hKA hrbA hon hp7 bA hxA hWA efr
        go_upto_region 7 with fail
        rw [← hWAH.out]
        clear hWAH
        go_wp2
        exact bodyPost_ret (v := .tuple #[tmV k neg (.slice od ld cd) nm n (.slice ol ll cl) (.slice ob lb cb), .bool true]) (by simp [results, Tryz.results17, go_sem, q0, q1, q2, q3, q4, q5, q6]) rfl ⟨_, rfl, ⟨_, rfl, hTF.out⟩, ⟨_, hRF.out⟩, hKF.out⟩
      | cons o st =>
        have hstl := wt_len st
        have hbb := hbH.out.trans (hKA.below hbH.out.size (fun k hk => hk.elim (fun e => e ▸ hWg) (fun e => by have := hbWH.out.size; have := hbH.out.size; omega)))
        have hshr := (putL_shr o T r1).2
        have hle := (putL_shr o T r1).1
        have hpo := putL_ok (T := T) (r := r1) (hoks o (by simp))
        have cP := put_w (w.heap.size + 1) g r1 o st T (tmV k neg (.slice od ld cd) nm n (.slice ol ll cl) (.slice ob lb cb)) WA W (by omega) (by omega) (hoks o (by simp)) ⟨Z, us, _, hSA, _, rfl, hTA⟩ hTH.out.1 (by have := hbWH.out.size; have := hbH.out.size; omega) hWg hbb
        have hnew : Hid (∀ v3 w3, StH (w.heap.size + 1) g (putL o T r1).2 st (putL o T r1).1 v3 w3 → Kpt (FR (w.heap.size + 1) g) WA w3 → LpR (w.heap.size + 1) g W1 R (hdF (putL o T r1).1 (putL o T r1).2) v3 w3) := hid (fun v3 w3 h3 k3 => ⟨_, _, _, h3, putL_vd (hoks o (by simp)) hvd, hpo.1, fun o' ho' => hoks o' (List.mem_cons_of_mem _ ho'), by
          have h1 := hpo.2
          have hwt2 : wtO o + wtS st + 1 + r1.length ≤ 65537 := hwt
          by_cases hno : (putL o T r1).1 = .no
          · rw [hno]; simp only [wtH]; omega
          · have := hshr hno; omega, Nat.le_refl _, by rw [← goL_tm]; exact hgo, hKA.trans k3⟩)
        have hfz : Hid (hdF (putL o T r1).1 (putL o T r1).2 < gk) := hid (by
          have := hdF_put (o := o) (T := T) (r := r1) (Nat.le_refl _)
          simp only [hdF] at hfu
          omega)
        have hne0 : (((o :: st).length : Int) == 0) = false := by simp only [List.length_cons]; simp; omega
        obtain ⟨ns, hns⟩ : ∃ ns, (o :: st).length = ns := ⟨_, rfl⟩
        rw [hns] at z1 hne0
        clear hns hstl hbb hshr hle hpo hS hTV hK hgo hok hoks hvd hwt hfu hReH hrbr hSA hTA hKA hrbA bA hxA hWA efr e0 e1 e2 e3 e4 e5 e6
        go_upto_region 7 with fail
        rw [← hWAH.out]
        clear hWAH
        go_wp2_with fail
        refine cP.mono ?_
        rintro e w3 ⟨v3, rfl, hSt3, hK3⟩
        have hL3 := hid (hnew.out v3 w3 hSt3 hK3)
        clear cP hSt3 hK3 hnew
        go_wp2
        go_roundg (hdF (putL o T r1).1 (putL o T r1).2)
        case measure => exact hfz.out
        case rel => exact hL3
end Go.Proofs.YtjacoodfhkaioabGreatDoor
namespace Go.Proofs.YtjacoodfhkaioabGreatDoor
open Go.ChangeShapes Go.WideShapes Go.ChangeAt Go.RowKit Go.Shelf
set_option linter.unusedSimpArgs false
set_option linter.unusedVariables false
set_option maxRecDepth 2000
theorem x8 : U8Extra Tryz.prog Tryz.lays196_ren := ⟨by kernel_rfl, by kernel_rfl, by kernel_rfl, by kernel_rfl, by kernel_rfl, by kernel_rfl, by kernel_rfl⟩
/-- all tables that the seat lists -/
def TabX (w : World) : Prop := TabsQ w ∧ Lib.TabBelow Tryz.prog w.heap.size w "internal/strconv.uint64pow10" .u64 Lib.pow10Tab
theorem TabX.below {w w' : World} (h : TabX w) (hb : Below w.heap.size w w') : TabX w' := ⟨h.1.below hb, tab_up h.2 hb⟩
theorem tabx_of_laid {W : World} (hL : laidMet Tryz.prog Rows.textRestRow.laid W) : TabX W := by
  have h1 := Lib.laidMet.reads hL (n := (Rows.textRestRow.laid[4]'(by decide)).1) (d := (Rows.textRestRow.laid[4]'(by decide)).2) (List.getElem_mem _)
  have h2 := Lib.laidMet.reads hL (n := (Rows.textRestRow.laid[3]'(by decide)).1) (d := (Rows.textRestRow.laid[3]'(by decide)).2) (List.getElem_mem _)
  have h3 := Lib.laidMet.reads hL (n := (Rows.textRestRow.laid[1]'(by decide)).1) (d := (Rows.textRestRow.laid[1]'(by decide)).2) (List.getElem_mem _)
  have h4 := Lib.laidMet.reads hL (n := (Rows.textRestRow.laid[2]'(by decide)).1) (d := (Rows.textRestRow.laid[2]'(by decide)).2) (List.getElem_mem _)
  refine ⟨⟨?_, ?_⟩, ?_⟩
  · refine utf8Tabs_of_readsT (U8Types.of196 Tryz.lays196) x8 ?_ ?_
    · rw [← Pinned.utf8First_eq]; exact h1
    · rw [show Lib.acceptData = Rows.laid_unicode_utf8_acceptRanges by kernel_rfl]; exact h2
  · intro j hj
    obtain ⟨g, t, cs, fuel, p, hg, hty, hvar, hd⟩ := h3
    have hg5 : Tryz.prog.globalNamed (Rows.textRestRow.laid[1]'(by decide)).1 = some 4 := by kernel_rfl
    obtain rfl := Option.some.inj (hg5.symm.trans hg)
    have hty5 : (Tryz.prog.globals[4]?).map (·.type) = some 167 := by kernel_rfl
    obtain rfl := Option.some.inj (hty5.symm.trans hty)
    have hd' : DataW.trod (fun _ => ()) Tryz.prog W 0 (fun _ => true) false fuel 167 cs.toList = some (Lib.tabData .u8 (Lib.deBruijn64tab.map fun (n : Nat) => (n : Int)), p) := by
      rw [show (Lib.tabData .u8 (Lib.deBruijn64tab.map fun (n : Nat) => (n : Int)) : DataW Unit) = Rows.laid_math_bits_deBruijn64tab by kernel_rfl]; exact hd
    have hcs := Lib.cells_of_tab Tryz.underlying167 Tryz.underlying5 (by kernel_rfl) (by kernel_rfl) hd'
    have := World.var?_cell hg hvar j
    rw [this, ← Array.getElem?_toList, hcs]
    simp [hj]
  · refine Lib.tabBelow_of_tabIs ?_
    obtain ⟨g, t, cs, fuel, p, hg, hty, hvar, hd⟩ := h4
    have hg5 : Tryz.prog.globalNamed "internal/strconv.uint64pow10" = some 2 := by kernel_rfl
    obtain rfl := Option.some.inj (hg5.symm.trans hg)
    have hty5 : (Tryz.prog.globals[2]?).map (·.type) = some 159 := by kernel_rfl
    obtain rfl := Option.some.inj (hty5.symm.trans hty)
    have hd' : DataW.trod (fun _ => ()) Tryz.prog W 0 (fun _ => true) false fuel 159 cs.toList = some (Lib.tabData .u64 Lib.pow10Tab, p) := by
      rw [show (Lib.tabData .u64 Lib.pow10Tab : DataW Unit) = Rows.laid_internal_strconv_uint64pow10 by kernel_rfl]; exact hd
    have hcs := Lib.cells_of_tab Tryz.underlying159 Tryz.underlying116 (by kernel_rfl) (by kernel_rfl) hd'
    unfold Lib.TabIs
    rw [show W.var? Tryz.prog "internal/strconv.uint64pow10" = some cs from hvar, ← hcs]
end Go.Proofs.YtjacoodfhkaioabGreatDoor
namespace Go.Proofs.YtjacoodfhkaioabGreatDoor
open Go.ChangeShapes Go.WideShapes Go.ChangeAt Go.RowKit Go.Shelf
set_option linter.unusedSimpArgs false
set_option linter.unusedVariables false
set_option maxRecDepth 2000

/-- what Read answers: the fault, the term, the bytes that it takes -/
def rdE (s : List UInt8) : Int := if 65536 < s.length then 3 else if Lib.validD s = false then 4 else match (readL s).1 with | none => 10 | some T => if mayB T then 0 else 10
def rdT (s : List UInt8) : Option Tm := if rdE s = 0 then (readL s).1 else none
def rdN (s : List UInt8) : Nat := if rdE s = 0 then s.length - (readL s).2.length else 0
abbrev zV : Value := .agg #[.int .i64 0, .bool false, .slice none 0 0, .string ⟨#[]⟩, .int .i64 0, .slice none 0 0, .slice none 0 0]
def TmO (S : Nat) (w : World) (o : Option Tm) (v : Value) : Prop :=
  match o with
  | none => v = zV
  | some T => TV (ZnS S w) w T v
theorem tv_drew {S : Nat} {w : World} {T : Tm} {v : Value} (h : TV (ZnS S w) w T v) : TV (ZnS S w.drew) w.drew T v := by
  have k := TV.zs (Z := ZnS S w) (w := w) (w' := w.drew) (fun _ _ => rfl) T v h
  exact TV.mono (fun _ _ h => h) _ _ k
set_option maxHeartbeats 4000000 in
theorem Read_w (s : List UInt8) (w : World) (hT : TabX w) (hs : s.length ≤ 9000000000000000) :
    Calls Tryz.prog 7 #[.string (bs s)] w fun e w' => ∃ v, e = .returned (.tuple #[v, .int .i64 (rdN s : Int), .int .i64 (rdE s)]) ∧ TmO w.heap.size w' (rdT s) v ∧ Below w.heap.size w w' := by
  obtain ⟨W1, hW1⟩ : ∃ W1, W1 = w.alloc (.cells #[.int .i64 0, .bool false, .slice none 0 0, .string ⟨#[]⟩, .int .i64 0, .slice none 0 0, .slice none 0 0] 26) := ⟨_, rfl⟩
  have bW : Below w.heap.size w W1 := by rw [hW1]; exact (Below.refl _ w).alloc (Nat.le_refl _) _
  have hrb : W1.heap[w.heap.size]? = some (.cells #[.int .i64 0, .bool false, .slice none 0 0, .string ⟨#[]⟩, .int .i64 0, .slice none 0 0, .slice none 0 0] 26 (0, 0)) := by rw [hW1]; exact heap_alloc_new w _
  have hWs : W1.heap.size = w.heap.size + 1 := by rw [hW1]; simp
  have hW1H := hid hW1
  have hrbH := hid hrb
  have hbWH := hid bW
  obtain ⟨S, hS⟩ : ∃ S, bs s = S := ⟨_, rfl⟩
  have hSs : S.size = s.length := by rw [← hS]; exact bs_size s
  have hSl : S.data.toList = s := by rw [← hS]; exact bs_list s
  rw [hS]
  have hSH := hid hS
  obtain ⟨E, hE⟩ : ∃ E, rdE s = E := ⟨_, rfl⟩
  obtain ⟨N, hN⟩ : ∃ N, rdN s = N := ⟨_, rfl⟩
  obtain ⟨O, hO⟩ : ∃ O, rdT s = O := ⟨_, rfl⟩
  rw [hE, hN, hO]
  have hEH := hid hE
  have hNH := hid hN
  have hOH := hid hO
  unfold rdN at hNH
  unfold rdT at hOH
  rw [hE] at hNH hOH
  unfold rdE at hEH
  clear hS hE hN hO
  by_cases h1 : 65536 < s.length
  · have hgt : (65536 : Int) < (S.size : Int) := by omega
    have hE3 : E = 3 := by rw [← hEH.out, if_pos h1]
    subst hE3
    have hN0 : N = 0 := by rw [← hNH.out]; rfl
    have hO0 : O = none := by rw [← hOH.out]; rfl
    subst hN0 hO0
    obtain ⟨e0, e1, e2, e3, e4, e5, e6⟩ := cell7 hrb
    have efr : ∀ j, W1.frozen? ⟨w.heap.size, j, none⟩ = false := (res7 hrb).fr
    have hp7 := heap_put7 hrb (.int .i64 0) (.bool false) nilS (.string noS) (.int .i64 0) nilS nilS
    have hon := only_put W1 w.heap.size (.int .i64 0) (.bool false) nilS (.string noS) (.int .i64 0) nilS nilS
    obtain ⟨q0, q1, q2, q3, q4, q5, q6⟩ := cell7 hp7
    have hbF := hid (bW.trans (hon.below (B := w.heap.size) (Nat.le_refl _)))
    clear hp7 hon
    clear hEH hNH hOH hT hrb bW hWs hW1 hSs hSl hSH hs h1
    go_enter Tryz.func7, Tryz.ntmps7
    go_upto_region 1 with fail
    rw [← hW1H.out]
    go_wp2
    exact bodyPost_ret (v := .tuple #[zV, .int .i64 0, .int .i64 3]) (by simp [results, Tryz.results7, go_sem, q0, q1, q2, q3, q4, q5, q6]) rfl ⟨_, rfl, rfl, hbF.out⟩
  · have hgt : ¬ (65536 : Int) < (S.size : Int) := by omega
    rw [if_neg h1] at hEH
    have cv := valid_w S W1 (by omega) (hT.below bW).1.1
    rw [hSl] at cv
    have hTH := hid hT
    have hsl : s.length ≤ 65536 := by omega
    obtain ⟨V, hV⟩ : ∃ V, Lib.validD s = V := ⟨_, rfl⟩
    rw [hV] at cv hEH
    cases V with
    | false =>
      have hE4 : E = 4 := by rw [← hEH.out, if_pos rfl]
      subst hE4
      have hN0 : N = 0 := by rw [← hNH.out]; rfl
      have hO0 : O = none := by rw [← hOH.out]; rfl
      subst hN0 hO0
      clear hEH hNH hOH hT hrb bW hWs hW1 hSs hSl hSH hs h1 hV hTH
      go_enter Tryz.func7, Tryz.ntmps7
      go_upto_region 1 with fail
      rw [← hW1H.out]
      go_wp2_with fail
      refine cv.mono ?_
      rintro e w2 ⟨rfl, b2⟩
      have hrb2 := (b2.block _ (Array.getElem?_eq_some_iff.1 hrbH.out).1).trans hrbH.out
      have bW2 := hbWH.out.trans (below_le b2 hbWH.out.size)
      obtain ⟨e0, e1, e2, e3, e4, e5, e6⟩ := cell7 hrb2
      have efr : ∀ j, w2.frozen? ⟨w.heap.size, j, none⟩ = false := (res7 hrb2).fr
      have hp7 := heap_put7 hrb2 (.int .i64 0) (.bool false) nilS (.string noS) (.int .i64 0) nilS nilS
      have hon := only_put w2 w.heap.size (.int .i64 0) (.bool false) nilS (.string noS) (.int .i64 0) nilS nilS
      obtain ⟨q0, q1, q2, q3, q4, q5, q6⟩ := cell7 hp7
      have hbF := hid (bW2.trans (hon.below (B := w.heap.size) (Nat.le_refl _)))
      clear hp7 hon
      clear cv b2 hrb2 bW2
      go_wp2
      exact bodyPost_ret (v := .tuple #[zV, .int .i64 0, .int .i64 4]) (by simp [results, Tryz.results7, go_sem, q0, q1, q2, q3, q4, q5, q6]) rfl ⟨_, rfl, rfl, hbF.out⟩
    | true =>
      rw [if_neg (by simp)] at hEH
      have hgd := fun T (h : (readL s).1 = some T) => readL_gd (r := s) (by omega) h
      have hrl := readL_le s
      have hrd := fun w2 (hR : Rdr w2.heap.size s (.slice none 0 0) (w2.alloc (.cells #[.string S, .slice none 0 0] 49))) (hb : Below w.heap.size w w2) => read_w w2.heap.size s (w2.alloc (.cells #[.string S, .slice none 0 0] 49)) w hsl hR hV hT.1 hb.size (hb.alloc hb.size _)
      obtain ⟨RO, hRO⟩ : ∃ RO, (readL s).1 = RO := ⟨_, rfl⟩
      obtain ⟨RR, hRR⟩ : ∃ RR, (readL s).2 = RR := ⟨_, rfl⟩
      rw [hRO, hRR] at hrd
      rw [hRO] at hgd hEH hOH
      rw [hRR] at hrl hNH
      have hgdH := hid hgd
      have hrdH := hid hrd
      have hrlH := hid hrl
      have hSsH := hid hSs
      clear hgd hrd hrl hRO hRR hT hrb bW hWs hW1 hSl hs h1 hV hSs
      go_enter Tryz.func7, Tryz.ntmps7
      go_upto_region 1 with fail
      rw [← hW1H.out]
      go_wp2_with fail
      refine cv.mono ?_
      rintro e w2 ⟨rfl, b2⟩
      have hrb2' := hid ((b2.block _ (Array.getElem?_eq_some_iff.1 hrbH.out).1).trans hrbH.out)
      have bW2 := hid (hbWH.out.trans (below_le b2 hbWH.out.size))
      have hRn : Rdr w2.heap.size s (.slice none 0 0) (w2.alloc (.cells #[.string S, .slice none 0 0] 49)) := ⟨by rw [← hSH.out] ; exact heap_alloc_new w2 _⟩
      have cr := hrdH.out w2 hRn bW2.out
      clear cv b2 hRn hrdH
      go_wp2_with fail
      refine cr.mono ?_
      rintro e w3 ⟨v, rfl, hA, ⟨ov, hR⟩, hK⟩
      have hb3 : Hid (Below w.heap.size w w3) := hid ((bW2.out.alloc bW2.out.size _).trans (hK.below (by have := bW2.out.size; simp; omega) (fun k hk => by rw [hk]; exact bW2.out.size)))
      have hrb3 : Hid (w3.heap[w.heap.size]? = some (.cells #[.int .i64 0, .bool false, .slice none 0 0, .string ⟨#[]⟩, .int .i64 0, .slice none 0 0, .slice none 0 0] 26 (0, 0))) := hid (by
        have hl := (Array.getElem?_eq_some_iff.1 hrb2'.out).1
        exact (hK.block _ (by simp; omega) (fun e => by omega)).trans ((((Below.refl w2.heap.size w2).alloc (Nat.le_refl _) _).block _ hl).trans hrb2'.out))
      clear cr hK
      cases RO with
      | none =>
        subst hA
        have hE4 : E = 10 := by rw [← hEH.out]
        subst hE4
        have hN0 : N = 0 := by rw [← hNH.out]; rfl
        have hO0 : O = none := by rw [← hOH.out]; rfl
        subst hN0 hO0
        clear hEH hNH hOH hgdH hrlH hSsH hTH hR hrbH hrb2' hW1H bW2 hbWH
        go_upto_region 8 with fail
        generalize hWA : World.alloc w3 _ = WA
        have bA : Below w3.heap.size w3 WA := by rw [← hWA]; exact (Below.refl _ w3).alloc (Nat.le_refl _) _
        have hrb2 := (bA.block _ (Array.getElem?_eq_some_iff.1 hrb3.out).1).trans hrb3.out
        have bW2 := hb3.out.trans (below_le bA hb3.out.size)
        obtain ⟨e0, e1, e2, e3, e4, e5, e6⟩ := cell7 hrb2
        have efr : ∀ j, WA.frozen? ⟨w.heap.size, j, none⟩ = false := (res7 hrb2).fr
        have hp7 := heap_put7 hrb2 (.int .i64 0) (.bool false) nilS (.string noS) (.int .i64 0) nilS nilS
        have hon := only_put WA w.heap.size (.int .i64 0) (.bool false) nilS (.string noS) (.int .i64 0) nilS nilS
        obtain ⟨q0, q1, q2, q3, q4, q5, q6⟩ := cell7 hp7
        have hbF := hid (bW2.trans (hon.below (B := w.heap.size) (Nat.le_refl _)))
        clear hp7 hon
        clear bA hrb2 bW2 hWA
        go_wp2
        exact bodyPost_ret (v := .tuple #[zV, .int .i64 0, .int .i64 10]) (by simp [results, Tryz.results7, go_sem, q0, q1, q2, q3, q4, q5, q6]) rfl ⟨_, rfl, rfl, hbF.out⟩
      | some T =>
        obtain ⟨x, rfl, hTV⟩ := hA
        obtain ⟨hg, hD⟩ := hgdH.out T rfl
        obtain ⟨k, neg, od, ld, cd, nm, n, ol, ll, cl, ob, lb, cb, rfl⟩ := hTV.form
        obtain ⟨WA, hWA⟩ : ∃ WA, WA = w3.alloc (.cells #[.int .i64 k, .bool neg, .slice od ld cd, .string nm, .int .i64 n, .slice ol ll cl, .slice ob lb cb] 26) := ⟨_, rfl⟩
        have bA : Below w3.heap.size w3 WA := by rw [hWA]; exact (Below.refl _ w3).alloc (Nat.le_refl _) _
        have hxA : WA.heap[w3.heap.size]? = some (.cells #[.int .i64 k, .bool neg, .slice od ld cd, .string nm, .int .i64 n, .slice ol ll cl, .slice ob lb cb] 26 (0, 0)) := by rw [hWA]; exact heap_alloc_new w3 _
        obtain ⟨x0, x1, x2, x3, x4, x5, x6⟩ := cell7 hxA
        have hTV0 := hTV
        replace hTV : TV (Low w3) w3 T _ := TV.mono (fun q _ hq => hq.2) _ _ hTV
        have hTA := tv_below hTV bA
        have hTZ : Hid (TV (fun q => w.heap.size < q ∧ q < WA.heap.size) WA T (tmV k neg (.slice od ld cd) nm n (.slice ol ll cl) (.slice ob lb cb))) := hid (by
          refine TV.mono (fun q _ hq => ⟨?_, Nat.lt_of_lt_of_le hq.2 bA.size⟩) _ _ (TV.zs (fun q hq => bA.block q hq.2) _ _ hTV0)
          have h1 := hq.1
          have h2 := (Array.getElem?_eq_some_iff.1 hrb2'.out).1
          have h3 : (w2.alloc (.cells #[.string S, .slice none 0 0] 49)).heap.size = w2.heap.size + 1 := by simp
          omega)
        have bwA := hb3.out.trans (below_le bA hb3.out.size)
        have cm := May_w T _ WA hD hg hTA (hTH.out.below bwA).1.1
        obtain ⟨mb, hmb⟩ : ∃ mb, mayB T = mb := ⟨_, rfl⟩
        have hEb := hEH.out
        simp only at hEb
        rw [hmb] at cm hEb
        have hWAH := hid hWA
        have hxAH := hid hxA
        have hTAH := hid hTA
        have hEbH := hid hEb
        have bwAH := hid bwA
        have bAH := hid bA
        clear hTV0 hmb hEb hEH hTV hg hD hgdH hWA hxA hTA bwA bA
        go_upto_region 7 with fail
        rw [← hWAH.out]
        clear hWAH
        go_wp2_with fail
        refine cm.mono ?_
        rintro e w4 ⟨rfl, b4⟩
        have hrb2 := (b4.block _ (Nat.lt_of_lt_of_le (Array.getElem?_eq_some_iff.1 hrb3.out).1 bAH.out.size)).trans ((bAH.out.block _ (Array.getElem?_eq_some_iff.1 hrb3.out).1).trans hrb3.out)
        have bW2' := bwAH.out.trans (below_le b4 bwAH.out.size)
        have hx4 := (b4.block _ (Array.getElem?_eq_some_iff.1 hxAH.out).1).trans hxAH.out
        have hT4 := hid (tv_below hTAH.out b4)
        have hR4 := (hR.below bAH.out).below b4
        clear cm x0 x1 x2 x3 x4 x5 x6
        cases mb with
        | false =>
          have hE4 : E = 10 := by rw [← hEbH.out]; rfl
          subst hE4
          have hN0 : N = 0 := by rw [← hNH.out]; rfl
          have hO0 : O = none := by rw [← hOH.out]; rfl
          subst hN0 hO0
          have bW2 := bW2'
          obtain ⟨e0, e1, e2, e3, e4, e5, e6⟩ := cell7 hrb2
          have efr : ∀ j, w4.frozen? ⟨w.heap.size, j, none⟩ = false := (res7 hrb2).fr
          have hp7 := heap_put7 hrb2 (.int .i64 0) (.bool false) nilS (.string noS) (.int .i64 0) nilS nilS
          have hon := only_put w4 w.heap.size (.int .i64 0) (.bool false) nilS (.string noS) (.int .i64 0) nilS nilS
          obtain ⟨q0, q1, q2, q3, q4, q5, q6⟩ := cell7 hp7
          have hbF := hid (bW2.trans (hon.below (B := w.heap.size) (Nat.le_refl _)))
          clear hp7 hon
          clear hrb2 bW2 bW2' hx4 hT4 hR4 hR b4
          go_wp2
          exact bodyPost_ret (v := .tuple #[zV, .int .i64 0, .int .i64 10]) (by simp [results, Tryz.results7, go_sem, q0, q1, q2, q3, q4, q5, q6]) rfl ⟨_, rfl, rfl, hbF.out⟩
        | true =>
          have hE4 : E = 0 := by rw [← hEbH.out]; rfl
          subst hE4
          have hNz : ((S.size : Nat) : Int) - ((bs RR).size : Int) = (N : Int) := by
            have h1 := hNH.out
            rw [if_pos rfl] at h1
            have h2 := hrlH.out
            have h3 := hSsH.out
            rw [bs_size]
            omega
          have hO0 : O = some T := by rw [← hOH.out]; rfl
          subst hO0
          obtain ⟨x0, x1, x2, x3, x4, x5, x6⟩ := cell7 hx4
          obtain ⟨y0, y1, f0, f1⟩ := hR4.cells
          obtain ⟨RS, hRS⟩ : ∃ RS, bs RR = RS := ⟨_, rfl⟩
          rw [hRS] at y0 hNz
          have hNzH := hid hNz
          have hsz1 : (RS.size : Int) ≤ (S.size : Int) := by omega
          have hsz2 : (S.size : Int) ≤ 65536 := by have := hSsH.out; omega
          obtain ⟨e0, e1, e2, e3, e4, e5, e6⟩ := cell7 hrb2
          have efr : ∀ j, w4.frozen? ⟨w.heap.size, j, none⟩ = false := (res7 hrb2).fr
          have hp7 := heap_put7 hrb2 (.int .i64 k) (.bool neg) (.slice od ld cd) (.string nm) (.int .i64 n) (.slice ol ll cl) (.slice ob lb cb)
          have hon := only_put w4 w.heap.size (.int .i64 k) (.bool neg) (.slice od ld cd) (.string nm) (.int .i64 n) (.slice ol ll cl) (.slice ob lb cb)
          have hTF : Hid (TV (ZnS w.heap.size (((((((w4.setCell ⟨w.heap.size, 0, none⟩ (.int .i64 k)).setCell ⟨w.heap.size, 1, none⟩ (.bool neg)).setCell ⟨w.heap.size, 2, none⟩ (.slice od ld cd)).setCell ⟨w.heap.size, 3, none⟩ (.string nm)).setCell ⟨w.heap.size, 4, none⟩ (.int .i64 n)).setCell ⟨w.heap.size, 5, none⟩ (.slice ol ll cl)).setCell ⟨w.heap.size, 6, none⟩ (.slice ob lb cb)).drew) (((((((w4.setCell ⟨w.heap.size, 0, none⟩ (.int .i64 k)).setCell ⟨w.heap.size, 1, none⟩ (.bool neg)).setCell ⟨w.heap.size, 2, none⟩ (.slice od ld cd)).setCell ⟨w.heap.size, 3, none⟩ (.string nm)).setCell ⟨w.heap.size, 4, none⟩ (.int .i64 n)).setCell ⟨w.heap.size, 5, none⟩ (.slice ol ll cl)).setCell ⟨w.heap.size, 6, none⟩ (.slice ob lb cb)).drew T (tmV k neg (.slice od ld cd) nm n (.slice ol ll cl) (.slice ob lb cb))) := hid (tv_drew (tv_only (TV.zs (fun q hq => b4.block q hq.2) _ _ hTZ.out) (fun q hq => ⟨Nat.lt_of_lt_of_le hq.2 b4.size, by omega, Nat.le_of_lt hq.1⟩) hon))
          have hBF := hid ((bW2'.trans (hon.below (B := w.heap.size) (Nat.le_refl _))).drew)
          obtain ⟨q0, q1, q2, q3, q4, q5, q6⟩ := cell7 hp7
          have hne1 : w2.heap.size ≠ w.heap.size := by have := (Array.getElem?_eq_some_iff.1 hrbH.out).1; have := (Array.getElem?_eq_some_iff.1 hrb2'.out).1; omega
          have hne2 := hne1.symm
          clear hRS hNz hp7 hon hR4 hx4 hrb2 b4 bW2' hR
          go_wp2
          go_region
          go_wp2
          exact bodyPost_ret (v := .tuple #[tmV k neg (.slice od ld cd) nm n (.slice ol ll cl) (.slice ob lb cb), .int .i64 (N : Int), .int .i64 0]) (by simp [results, Tryz.results7, go_sem, q0, q1, q2, q3, q4, q5, q6, hNzH.out]) rfl ⟨_, rfl, hTF.out, hBF.out⟩
end Go.Proofs.YtjacoodfhkaioabGreatDoor
namespace Go.Proofs.YtjacoodfhkaioabGreatDoor
open Go.ChangeShapes Go.WideShapes Go.ChangeAt Go.RowKit Go.Shelf
set_option linter.unusedSimpArgs false
set_option linter.unusedVariables false
set_option maxRecDepth 2000

def paE (s : List UInt8) : Int := if rdE s = 0 then (if rdN s < s.length then 10 else 0) else rdE s
def paT (s : List UInt8) : Option Tm := if paE s = 0 then rdT s else none
theorem tmo_form {S : Nat} {w : World} {o : Option Tm} {v : Value} (h : TmO S w o v) : ∃ k neg od ld cd nm n ol ll cl ob lb cb, v = tmV k neg (.slice od ld cd) nm n (.slice ol ll cl) (.slice ob lb cb) := by
  cases o with
  | none => exact ⟨0, false, none, 0, 0, ⟨#[]⟩, 0, none, 0, 0, none, 0, 0, h⟩
  | some T => exact TV.form h
theorem tmo_bel {S S' : Nat} {w w' : World} {o : Option Tm} {v : Value} (h : TmO S w o v) (hb : Below w.heap.size w w') (hS : S' ≤ S) : TmO S' w' o v := by
  cases o with
  | none => exact h
  | some T => exact TV.mono (fun q _ hq => ⟨Nat.le_trans hS hq.1, Nat.lt_of_lt_of_le hq.2 hb.size⟩) _ _ (TV.zs (fun q hq => hb.block q hq.2) _ _ h)
theorem tmo_only {S S' g : Nat} {w w' : World} {o : Option Tm} {v : Value} (h : TmO S w o v) (ho : Only g w w') (hg : g < S) (hS : S' ≤ S) : TmO S' w' o v := by
  cases o with
  | none => exact h
  | some T => exact TV.mono (fun q _ hq => ⟨Nat.le_trans hS hq.1, by show q < w'.heap.size; rw [ho.2.1]; exact hq.2⟩) _ _ (TV.zs (fun q hq => ho.2.2 q (by have := hq.1; omega)) _ _ h)
set_option maxHeartbeats 4000000 in
theorem Parse_w (s : List UInt8) (w : World) (hT : TabX w) (hs : s.length ≤ 9000000000000000) :
    Calls Tryz.prog 8 #[.string (bs s)] w fun e w' => ∃ v, e = .returned (.tuple #[v, .int .i64 (paE s)]) ∧ TmO w.heap.size w' (paT s) v ∧ Below w.heap.size w w' := by
  obtain ⟨W1, hW1⟩ : ∃ W1, W1 = w.alloc (.cells #[.int .i64 0, .bool false, .slice none 0 0, .string ⟨#[]⟩, .int .i64 0, .slice none 0 0, .slice none 0 0] 26) := ⟨_, rfl⟩
  have bW : Below w.heap.size w W1 := by rw [hW1]; exact (Below.refl _ w).alloc (Nat.le_refl _) _
  have hrb : W1.heap[w.heap.size]? = some (.cells #[.int .i64 0, .bool false, .slice none 0 0, .string ⟨#[]⟩, .int .i64 0, .slice none 0 0, .slice none 0 0] 26 (0, 0)) := by rw [hW1]; exact heap_alloc_new w _
  have hWs : W1.heap.size = w.heap.size + 1 := by rw [hW1]; simp
  have cr := Read_w s W1 (hT.below bW) hs
  have hW1H := hid hW1
  have hrbH := hid hrb
  have hbWH := hid bW
  have hWsH := hid hWs
  obtain ⟨S, hS⟩ : ∃ S, bs s = S := ⟨_, rfl⟩
  have hSs : S.size = s.length := by rw [← hS]; exact bs_size s
  rw [hS] at cr
  rw [hS]
  obtain ⟨E, hE⟩ : ∃ E, rdE s = E := ⟨_, rfl⟩
  obtain ⟨N, hN⟩ : ∃ N, rdN s = N := ⟨_, rfl⟩
  obtain ⟨O, hO⟩ : ∃ O, rdT s = O := ⟨_, rfl⟩
  obtain ⟨E', hE'⟩ : ∃ E', paE s = E' := ⟨_, rfl⟩
  obtain ⟨O', hO'⟩ : ∃ O', paT s = O' := ⟨_, rfl⟩
  have hE2 := hE'
  have hO2 := hO'
  unfold paE at hE2
  unfold paT at hO2
  rw [hE, hN] at hE2
  rw [hE', hO] at hO2
  rw [hE', hO']
  rw [hE, hN, hO] at cr
  have hE2H := hid hE2
  have hO2H := hid hO2
  have hSsH := hid hSs
  clear hE hN hO hE' hO' hS hrb bW hWs hW1 hT hE2 hO2 hSs
  go_enter Tryz.func8, Tryz.ntmps8
  go_upto_region 1 with fail
  rw [← hW1H.out]
  go_wp2_with fail
  refine cr.mono ?_
  rintro e w2 ⟨v2, rfl, hV, b2⟩
  have hVH := hid hV
  obtain ⟨k, neg, od, ld, cd, nm, n, ol, ll, cl, ob, lb, cb, rfl⟩ := tmo_form hV
  obtain ⟨W5, hW5⟩ : ∃ W5, W5 = w2.alloc (.cells #[.int .i64 k, .bool neg, .slice od ld cd, .string nm, .int .i64 n, .slice ol ll cl, .slice ob lb cb] 26) := ⟨_, rfl⟩
  have bA : Below w2.heap.size w2 W5 := by rw [hW5]; exact (Below.refl _ w2).alloc (Nat.le_refl _) _
  have b5 : Below W1.heap.size W1 W5 := b2.trans (below_le bA b2.size)
  have hxA : W5.heap[w2.heap.size]? = some (.cells #[.int .i64 k, .bool neg, .slice od ld cd, .string nm, .int .i64 n, .slice ol ll cl, .slice ob lb cb] 26 (0, 0)) := by rw [hW5]; exact heap_alloc_new w2 _
  obtain ⟨x0, x1, x2, x3, x4, x5, x6⟩ := cell7 hxA
  have hW5H := hid hW5
  have hbAH := hid bA
  clear hV cr hW5 hxA bA b2 hW1H
  have hE2 := hE2H.out
  have hO2 := hO2H.out
  have hSs := hSsH.out
  by_cases h0 : E = 0
  · subst h0
    rw [if_pos rfl] at hE2
    by_cases h1 : N < s.length
    · rw [if_pos h1] at hE2
      subst hE2
      have hO0 : O' = none := by rw [← hO2]; rfl
      subst hO0
      have hz : (N : Int) < (S.size : Int) := by omega
      have hrb5 := (b5.block _ (Array.getElem?_eq_some_iff.1 hrbH.out).1).trans hrbH.out
      have bW5 := hbWH.out.trans (below_le b5 hbWH.out.size)
      obtain ⟨e0, e1, e2, e3, e4, e5, e6⟩ := cell7 hrb5
      have efr : ∀ j, W5.frozen? ⟨w.heap.size, j, none⟩ = false := (res7 hrb5).fr
      have hp7 := heap_put7 hrb5 (.int .i64 0) (.bool false) nilS (.string noS) (.int .i64 0) nilS nilS
      have hon := only_put W5 w.heap.size (.int .i64 0) (.bool false) nilS (.string noS) (.int .i64 0) nilS nilS
      obtain ⟨q0, q1, q2, q3, q4, q5, q6⟩ := cell7 hp7
      have hbF := hid (bW5.trans (hon.below (B := w.heap.size) (Nat.le_refl _)))
      clear hO2H hE2H hO2 h1 hSs hVH hp7 hon hrb5 bW5 hbAH b5
      go_upto_region 2 with fail
      rw [← hW5H.out]
      go_wp2
      exact bodyPost_ret (v := .tuple #[zV, .int .i64 10]) (by simp [results, Tryz.results8, go_sem, q0, q1, q2, q3, q4, q5, q6]) rfl ⟨_, rfl, rfl, hbF.out⟩
    · rw [if_neg h1] at hE2
      subst hE2
      rw [if_pos rfl] at hO2
      subst hO2
      have hz0 : ¬ (N : Int) < (S.size : Int) := by omega
      have hz : ((N : Int) < (S.size : Int)) = False := by simp only [hz0]
      clear hz0
      have hrb5 := (b5.block _ (Array.getElem?_eq_some_iff.1 hrbH.out).1).trans hrbH.out
      have bW5 := hbWH.out.trans (below_le b5 hbWH.out.size)
      obtain ⟨e0, e1, e2, e3, e4, e5, e6⟩ := cell7 hrb5
      have efr : ∀ j, W5.frozen? ⟨w.heap.size, j, none⟩ = false := (res7 hrb5).fr
      have hp7 := heap_put7 hrb5 (.int .i64 k) (.bool neg) (.slice od ld cd) (.string nm) (.int .i64 n) (.slice ol ll cl) (.slice ob lb cb)
      have hon := only_put W5 w.heap.size (.int .i64 k) (.bool neg) (.slice od ld cd) (.string nm) (.int .i64 n) (.slice ol ll cl) (.slice ob lb cb)
      obtain ⟨q0, q1, q2, q3, q4, q5, q6⟩ := cell7 hp7
      have hbF := hid (bW5.trans (hon.below (B := w.heap.size) (Nat.le_refl _)))
      have hTF : Hid (TmO w.heap.size (((((((W5.setCell ⟨w.heap.size, 0, none⟩ (.int .i64 k)).setCell ⟨w.heap.size, 1, none⟩ (.bool neg)).setCell ⟨w.heap.size, 2, none⟩ (.slice od ld cd)).setCell ⟨w.heap.size, 3, none⟩ (.string nm)).setCell ⟨w.heap.size, 4, none⟩ (.int .i64 n)).setCell ⟨w.heap.size, 5, none⟩ (.slice ol ll cl)).setCell ⟨w.heap.size, 6, none⟩ (.slice ob lb cb)) O (tmV k neg (.slice od ld cd) nm n (.slice ol ll cl) (.slice ob lb cb))) := hid (tmo_only (g := w.heap.size) (tmo_bel hVH.out hbAH.out (Nat.le_refl _)) hon (by have := hWsH.out; omega) (by have := hWsH.out; omega))
      clear hO2H hE2H h1 hSs hVH hp7 hon hrb5 bW5 hbAH b5
      go_upto_region 2 with fail
      rw [← hW5H.out]
      go_wp2
      exact bodyPost_ret (v := .tuple #[tmV k neg (.slice od ld cd) nm n (.slice ol ll cl) (.slice ob lb cb), .int .i64 0]) (by simp [results, Tryz.results8, go_sem, q0, q1, q2, q3, q4, q5, q6]) rfl ⟨_, rfl, hTF.out, hbF.out⟩
  · have h0b : (E != 0) = true := by simp [h0]
    rw [if_neg h0] at hE2
    subst hE2
    have hO0 : O' = none := by rw [← hO2, if_neg h0]
    subst hO0
    have hrb5 := (b5.block _ (Array.getElem?_eq_some_iff.1 hrbH.out).1).trans hrbH.out
    have bW5 := hbWH.out.trans (below_le b5 hbWH.out.size)
    obtain ⟨e0, e1, e2, e3, e4, e5, e6⟩ := cell7 hrb5
    have efr : ∀ j, W5.frozen? ⟨w.heap.size, j, none⟩ = false := (res7 hrb5).fr
    have hp7 := heap_put7 hrb5 (.int .i64 0) (.bool false) nilS (.string noS) (.int .i64 0) nilS nilS
    have hon := only_put W5 w.heap.size (.int .i64 0) (.bool false) nilS (.string noS) (.int .i64 0) nilS nilS
    obtain ⟨q0, q1, q2, q3, q4, q5, q6⟩ := cell7 hp7
    have hbF := hid (bW5.trans (hon.below (B := w.heap.size) (Nat.le_refl _)))
    clear hO2H hE2H hO2 hSs hVH hp7 hon hrb5 bW5 hbAH b5 h0
    go_upto_region 2 with fail
    rw [← hW5H.out]
    go_wp2
    exact bodyPost_ret (v := .tuple #[zV, .int .i64 E]) (by simp [results, Tryz.results8, go_sem, q0, q1, q2, q3, q4, q5, q6]) rfl ⟨_, rfl, rfl, hbF.out⟩
end Go.Proofs.YtjacoodfhkaioabGreatDoor
namespace Go.Proofs.YtjacoodfhkaioabGreatDoor
open Go.ChangeShapes Go.WideShapes Go.ChangeAt Go.RowKit Go.Shelf
set_option linter.unusedSimpArgs false
set_option linter.unusedVariables false
set_option maxRecDepth 2000

/-- what is known of the limbs and the bytes of a part -/
def lmP : Tm → Prop | .mk _ _ d _ _ _ b => Lm 4294967296 d ∧ Lm 256 b
def lmX (T : Tm) : Prop := ∀ p ∈ parts T, lmP p
theorem mem_parts_of {t p : Tm} (hp : p ∈ parts t) : ∀ {l : List Tm}, t ∈ l → p ∈ partsL l
  | [], h => by simp at h
  | u :: l, h => by
    simp only [partsL, List.mem_append]
    rcases List.mem_cons.1 h with rfl | h
    · exact .inl hp
    · exact .inr (mem_parts_of hp h)
theorem lmX.kid {T t : Tm} (h : lmX T) (ht : t ∈ T.kids) : lmX t := fun p hp => h p (by
  rw [parts_eq]
  exact List.mem_cons_of_mem _ (mem_parts_of hp ht))
end Go.Proofs.YtjacoodfhkaioabGreatDoor
namespace Go.Proofs.YtjacoodfhkaioabGreatDoor
open Go.ChangeShapes Go.WideShapes Go.ChangeAt Go.RowKit Go.Shelf
set_option linter.unusedSimpArgs false
set_option linter.unusedVariables false
set_option maxRecDepth 2000

theorem TV.agg {Z : Nat → Prop} {w : World} {k : Int} {neg : Bool} {d : List Nat} {nm : ByteArray} {n : Int} {l : List Tm} {b : List Nat} {a0 a1 a2 a3 a4 a5 a6 : Value} (h : TV Z w (.mk k neg d nm n l b) (.agg #[a0, a1, a2, a3, a4, a5, a6])) :
    ∃ od cd ol cl ob cb, a0 = .int .i64 k ∧ a1 = .bool neg ∧ a2 = .slice od d.length cd ∧ a3 = .string nm ∧ a4 = .int .i64 n ∧ a5 = .slice ol l.length cl ∧ a6 = .slice ob b.length cb ∧ TR Z w l ol ∧ l.length ≤ cl := by
  unfold TV at h
  obtain ⟨od, cd, ol, cl, ob, cb, hv, h1, h2, h3, h4, h5, h6, h7⟩ := h
  simp [tmV] at hv
  obtain ⟨e0, e1, e2, e3, e4, e5, e6⟩ := hv
  exact ⟨od, cd, ol, cl, ob, cb, e0, e1, e2, e3, e4, e5, e6, h7, h6⟩
end Go.Proofs.YtjacoodfhkaioabGreatDoor
