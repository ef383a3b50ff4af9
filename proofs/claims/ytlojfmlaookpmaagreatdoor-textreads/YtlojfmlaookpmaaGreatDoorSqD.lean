/- Texts of mine, one behind the other: BigRMinus, BigOpen, BigOrd, BigRAdd, BigRSub, TermKit, TermMem. -/
import Derived.Test.YtlojfmlaookpmaaGreatDoorSqC
import Derived.Lib.SmallJoins
import Derived.ChangeSlices
import Derived.Handy
set_option linter.unusedSimpArgs false
set_option linter.unusedVariables false
set_option maxRecDepth 2000
open List renaming getElem_toArray → zga, getElem_cons_succ → zgs, getElem_cons_zero → zgz, setIfInBounds_toArray → zsa, set_cons_succ → zss, set_cons_zero → zsz
namespace Go.Proofs.YtlojfmlaookpmaaGreatDoor
open Go.ChangeShapes Go.WideShapes Go.ChangeAt Go.RowKit
theorem dif_step2 (x y c : Nat) (hx : x < 4294967296) (hy : y < 4294967296) (hc : c ≤ 1) : ∃ D1 D r q : Nat, IntKind.u64.wrap ((x : Int) - (y : Int)) = (D1 : Int) ∧ IntKind.u64.wrap ((D1 : Int) - (c : Int)) = (D : Int) ∧ IntKind.u32.wrap (D : Int) = (r : Int) ∧ (D : Int) / 9223372036854775808 = (q : Int) ∧ r + (c + y) = x + 4294967296 * q ∧ q ≤ 1 ∧ r < 4294967296 := by
 by_cases h : y ≤ x
 · by_cases h2 : y + c ≤ x
   · exact ⟨x - y, x - y - c, x - y - c, 0, by rw [IntKind.wrap_u64]; omega, by rw [IntKind.wrap_u64]; omega, by rw [IntKind.wrap_u32]; omega, by omega, by omega, by omega, by omega⟩
   · exact ⟨x - y, 18446744073709551615, 4294967295, 1, by rw [IntKind.wrap_u64]; omega, by rw [IntKind.wrap_u64]; omega, by rw [IntKind.wrap_u32]; omega, by omega, by omega, by omega, by omega⟩
 · exact ⟨18446744073709551616 + x - y, 18446744073709551616 + x - y - c, 4294967296 + x - y - c, 1, by rw [IntKind.wrap_u64]; omega, by rw [IntKind.wrap_u64]; omega, by rw [IntKind.wrap_u32]; omega, by omega, by omega, by omega, by omega⟩
theorem minus_step {L la lb : List Nat} {cn x y r q : Nat} (hH : gval 4294967296 L + gval 4294967296 (lb.take L.length) = gval 4294967296 (la.take L.length) + 4294967296 ^ L.length * cn) (hx : la[L.length]? = some x) (hy : lb.getD L.length 0 = y) (hr : r + (cn + y) = x + 4294967296 * q) :
   gval 4294967296 (L ++ [r]) + gval 4294967296 (lb.take (L.length + 1)) = gval 4294967296 (la.take (L.length + 1)) + 4294967296 ^ (L.length + 1) * q := by
 rw [gval_append, gval_take_getD, gval_take_succ _ hx, pow_step, hy]
 have := dif_sum (P := 4294967296 ^ L.length) (b := cn) (t := cn + y) (y := y) rfl hr hH
 simpa [gval] using this
set_option maxHeartbeats 1000000 in
theorem minus_w (oa ob : Option Addr) (ca cb : Nat) (la lb : List Nat) (w : World) (ma : Lm 4294967296 la) (mb : Lm 4294967296 lb) (za : la.length ≤ 1000000) (zb : lb.length ≤ la.length) (hle : gval 4294967296 lb ≤ gval 4294967296 la) (ha : Lies oa la w) (hb : Lies ob lb w) :
   Calls Tryz.prog 98 #[.slice oa la.length ca, .slice ob lb.length cb] w fun e w' => ∃ v L, e = .returned v ∧ Fr w.heap.size v L w' ∧ Lm 4294967296 L ∧ gval 4294967296 L = gval 4294967296 la - gval 4294967296 lb ∧ L.length = la.length ∧ Below w.heap.size w w' := by
 obtain ⟨i0, hi, hy0, hy1, hy2⟩ := info_parts info32u
 have hle' := hid hle
 clear hle
 go_enter Tryz.func98, Tryz.ntmps98
 go_wp2
 go_loopw [5, 6, 7] (fun ov cv iv wr => ∃ (L : List Nat) (cn : Nat), cv = .int .u64 (cn : Int) ∧ iv = .int .i64 (L.length : Int) ∧ Fr w.heap.size ov L wr ∧ L.length ≤ la.length ∧ cn ≤ 1 ∧ Lm 4294967296 L ∧ Below w.heap.size w wr ∧ Hid (gval 4294967296 L + gval 4294967296 (lb.take L.length) = gval 4294967296 (la.take L.length) + 4294967296 ^ L.length * cn)) (fun _ _ iv _ => la.length - (intOf iv).toNat)
 case atStart => exact ⟨[], 0, rfl, rfl, Fr.nil _ _, by simp, by omega, Lm.nil _, Below.refl _ _, hid (by simp [gval])⟩
 case round =>
   obtain ⟨L, cn, rfl, rfl, hF, hk, hcn, hLm, hbw, hH⟩ := hrel
   by_cases h1 : L.length < la.length
   · have h1z : (L.length : Int) < (la.length : Int) := by omega
     obtain ⟨x, hx⟩ : ∃ x, la[L.length]? = some x := ⟨la[L.length], by simp [h1]⟩
     obtain ⟨y, hy⟩ : ∃ y, lb.getD L.length 0 = y := ⟨_, rfl⟩
     have hxm := ma.at hx
     have hym : y < 4294967296 := by rw [← hy]; exact mb.getD (by omega) _
     obtain ⟨D1, D, r, q, w1, w2, w3, w4, hr, hq, hrm⟩ := dif_step2 x y cn hxm hym hcn
     have hstep := hid (minus_step hH.out hx hy hr)
     have wx : IntKind.u64.wrap (x : Int) = (x : Int) := by rw [IntKind.wrap_u64]; omega
     obtain ⟨a, rfl, cx⟩ := (ha.below hbw) _ x hx
     have hlim : ∀ w', Below w.heap.size w w' → Calls Tryz.prog 125 #[.slice ob lb.length cb, .int .i64 (L.length : Int)] w' fun e w'' => e = .returned (.int .u64 (y : Int)) ∧ w'' = w' := fun w' hb' => by
       have := limb_w ob cb lb L.length w' mb (hb.below hb')
       rw [hy] at this
       exact this
     have hlim' := hid hlim
     clear hr hx hy hlim
     go_wp2
     go_quiet ((go_at_call 125; exact Calls.quiet_of_same (hlim'.out _ (by first | exact hbw | exact below_drewNv hbw _))))
     have hbq := below_drewNv hbw nq
     have hFq : Fr w.heap.size _ L (wr.drewN nq) := hF.below (below_drewNv (Below.refl _ _) nq)
     clear cx hF hbw
     generalize wr.drewN nq = wq at *
     have hsz := hbq.size
     go_wp2_with (at_builtin; refine wpList_append_own _ rfl _ _ 23 rfl w.heap.size 133 i0 (.int .u32 0) 1 4 Tryz.underlying23 hi hy0 hy1 hy2 rfl (by decide) _ _ _ rfl (World.ownsRow.alloc hFq _) ⟨wq.heap.size, 0, none⟩ 1 1 [.int .u32 (r : Int)] rfl rfl ?c1 ?c2 ?c3 ?c4 ?c5 ?_)
     first
       | (case c1 =>
           intro j u hj
           match j, hj with
           | 0, hj => simp at hj; subst hj; simp [Addr.add]
           | j + 1, hj => simp at hj)
       | skip
     case c2 => first | rfl | (intro u hu; simp at hu; subst hu; rfl)
     case c3 => unfold maxLen; omega
     case c4 => omega
     case c5 => first | omega | (simp; omega)
     intro v' w2 hown' hgrow _
     go_wp2
     go_roundw
     case rel =>
       refine ⟨L ++ [r], q, rfl, by simp, Fr.push hown', by simp; omega, hq, hLm.append (Lm.cons hrm (Lm.nil _)), (hbq.alloc hsz _).grown hgrow (by simp; omega) hFq.block, hid ?_⟩
       rw [List.length_append]
       exact hstep.out
     case measure => simp [intOf]; omega
   · have h1z : ¬ (L.length : Int) < (la.length : Int) := by omega
     go_wp2
     go_ret
     have hle := hle'.out
     have hh := hH.out
     have hke : L.length = la.length := by omega
     rw [hke, List.take_of_length_le (by omega), List.take_of_length_le (by omega)] at hh
     have hlt := gval_lt hLm
     rw [hke] at hlt
     have hc0 : cn = 0 := by
       rcases Nat.lt_or_ge 0 cn with h | h
       · have : cn = 1 := by omega
         subst this; omega
       · omega
     subst hc0
     exact ⟨_, rfl, L, hF, hLm, by omega, hke, hbw⟩
open Go.ChangeMaps
theorem IsN.of_open {w : World} {neg : Bool} {o : Option Addr} {l : List Nat} {c K : Nat} (h1 : Lies o l w) (h2 : l.length ≤ c) (h3 : Lm 4294967296 l) (h4 : l.length ≤ K) : IsN (.agg #[.bool neg, .slice o l.length c]) (sv neg (gval 4294967296 l)) K w := ⟨neg, o, l, c, rfl, h1, h2, h3, rfl, h4⟩
theorem wpAnyH_inv {σ : Type} {P : Program} {md : Region.Mode} {ops : Array Oper} {Q : Exit → Act → World → Prop} {S : World → Prop} {m : Nat} (L : σ → Array Bool) (A : σ → Act) (R : σ → World → Prop) (n : σ → Nat)
   (hne : ∀ s w, R s w → n s ≠ 0 → Region.ready md ops (L s) ≠ [])
   (hstep : ∀ s w, R s w → n s ≠ 0 → ∀ i ∈ Region.ready md ops (L s), wpOp P ops Q i (fun a' w' => ∃ s', n s = n s' + 1 ∧ L s' = (L s).setIfInBounds i true ∧ a' = A s' ∧ R s' w' ∧ S w') (A s) w)
   (hdone : ∀ s w, R s w → n s = 0 → wpAnyH P md ops Q S m (L s) (A s) w) :
   ∀ (k : Nat) (s : σ) (w : World) (listed : Array Bool) (a : Act), n s = k → listed = L s → a = A s → R s w → wpAnyH P md ops Q S (m + k) listed a w := by
 intro k
 induction k with
 | zero =>
   intro s w listed a hn hl ha hR
   subst hl ha
   exact hdone s w hR hn
 | succ k ih =>
   intro s w listed a hn hl ha hR
   subst hl ha
   refine ⟨fun h0 => absurd h0 (hne s w hR (by omega)), fun i hi => ?_⟩
   refine wpOp_mono (fun a' w' h => ?_) (hstep s w hR (by omega) i hi)
   obtain ⟨s', h1, h2, h3, h4, h5⟩ := h
   exact ⟨h5, ih s' w' _ _ (by omega) h2.symm h3 h4⟩
theorem below_and' {N : Nat} {w w' w'' : World} (h : Below N w w') (hN : N ≤ w'.heap.size) (h' : Below w'.heap.size w' w'') : Below N w w'' := h.trans (below_le h' hN)
def bAll (f : Bool → Bool) : Bool := f false && f true
theorem bAll_spec {f : Bool → Bool} (h : bAll f = true) (b : Bool) : f b = true := by
 unfold bAll at h
 rw [Bool.and_eq_true] at h
 cases b
 · exact h.1
 · exact h.2
theorem wpAnyH_name {P : Program} {md : Region.Mode} {ops : Array Oper} {Q : Exit → Act → World → Prop} {S : World → Prop} {m : Nat} {listed : Array Bool} {a : Act} {w : World} (h : ∀ a0, a0 = a → wpAnyH P md ops Q S m listed a0 w) : wpAnyH P md ops Q S m listed a w := h a rfl
theorem wpAnyH_at {P : Program} {md : Region.Mode} {ops : Array Oper} {Q : Exit → Act → World → Prop} {S : World → Prop} {m m' : Nat} {listed listed' : Array Bool} {a : Act} {w : World} (hm : m = m') (hl : listed = listed') (h : wpAnyH P md ops Q S m' listed' a w) : wpAnyH P md ops Q S m listed a w := by
 subst hm hl; exact h
theorem IsC.shape {v : Value} {Z : Int} {K : Nat} {w : World} (h : IsC v Z K w) : ∃ b o n c, v = .agg #[.bool b, .slice o n c] := by
 obtain ⟨o, c, rfl, _⟩ := h
 exact ⟨_, _, _, _, rfl⟩
theorem IsC.parts {b : Bool} {o : Option Addr} {n c : Nat} {Z : Int} {K : Nat} {w : World} (h : IsC (.agg #[.bool b, .slice o n c]) Z K w) : b = decide (Z < 0) ∧ n = (glim 4294967296 Z.natAbs).length := by
 obtain ⟨o', c', e, _⟩ := h
 simp only [Value.agg.injEq, Array.mk.injEq, List.cons.injEq, Value.bool.injEq, Value.slice.injEq, and_true] at e
 exact ⟨e.1, e.2.2.1⟩
theorem newbox (w : World) (u v : Value) (t : TypeId) : Box w.heap.size u v (w.alloc (.cells #[u, v] t)) ∧ Below w.heap.size w (w.alloc (.cells #[u, v] t)) ∧ (w.alloc (.cells #[u, v] t)).heap.size = w.heap.size + 1 :=
 ⟨Box.new w u v t, (Below.refl _ _).alloc (Nat.le_refl _) _, by simp⟩
theorem Box.lt {g : Nat} {u v : Value} {w : World} (h : Box g u v w) : g < w.heap.size := World.block_lt_of_cell? _ _ h.1
theorem cmpZ_swap (x y : Int) : -cmpZ y x = cmpZ x y := by
 simp only [cmpZ]
 split <;> split <;> (try split) <;> omega
end Go.Proofs.YtlojfmlaookpmaaGreatDoor
namespace Go.Proofs.YtlojfmlaookpmaaGreatDoor
open Go.ChangeShapes Go.WideShapes Go.ChangeAt Go.RowKit
set_option maxHeartbeats 1000000 in
theorem radd_w (va vb : Value) (X Y : Int) (kk : Nat) (w : World) (hK : kk + 1 ≤ 1000000) (ha : IsN va X kk w) (hb : IsN vb Y kk w) :
   Calls Tryz.prog 66 #[va, vb] w fun e w' => ∃ v', e = .returned v' ∧ IsC v' (X + Y) (kk + 1) w' ∧ Below w.heap.size w w' := by
 have hA : ∀ w', Below w.heap.size w w' → IsN va X kk w' := fun w' hw => ha.below hw
 have hB : ∀ w', Below w.heap.size w w' → IsN vb Y kk w' := fun w' hw => hb.below hw
 obtain ⟨na, oa, la, ca, rfl, hLa, hca, hma, hsa, hka⟩ := ha
 obtain ⟨nb, ob, lb, cb, rfl, hLb, hcb, hmb, hsb, hkb⟩ := hb
 clear hsa hsb hma hmb hLa hLb hca hcb hka hkb
 obtain ⟨kA, kB, kC, hB0, hz0⟩ := boxes3 w (.bool na) (.slice oa la.length ca) (.bool nb) (.slice ob lb.length cb) (.bool false) (.slice none 0 0) 68 68 68
 go_enter Tryz.func66, Tryz.ntmps66
 go_wp2
 generalize (((w.alloc (.cells #[.bool na, .slice oa la.length ca] 68)).alloc (.cells #[.bool nb, .slice ob lb.length cb] 68)).alloc (.cells #[.bool false, .slice none 0 0] 68)) = W0 at *
 obtain ⟨f1, f2, f3, f4⟩ := id kA
 obtain ⟨f5, f6, f7, f8⟩ := id kB
 go_cut [] from 5 to 8 (fun wx => Two X Y kk w wx ∧ After w W0 wx)
 case first =>
   go_region_with (first
       | (go_at_call_of 67 oa
          refine (rnorm_w _ X kk _ (by omega) (hA _ hB0.drew)).mono ?_
          rintro e w1 ⟨s1, rfl, hF1, q1, b1'⟩
          have b1 : Below W0.heap.size W0 w1 := ((Below.refl _ W0).drew).trans b1'
          clear b1'
          obtain ⟨o1, c1, rfl, L1, z1, _⟩ := hF1.parts
          have hB1 : Below w.heap.size w w1 := below_and hB0 (Nat.le_refl _) b1
          have hz1 := b1.size
          obtain ⟨p1, p2, p3, p4⟩ := kA.below b1 (by omega)
          obtain ⟨p5, p6, p7, p8⟩ := kB.below b1 (by omega))
       | (go_at_call_of 67 ob
          refine (rnorm_w _ Y kk _ (by omega) (hB _ hB1)).mono ?_
          rintro e w2 ⟨s2, rfl, hF2, q2, b2'⟩
          have b2 : Below W0.heap.size W0 w2 := below_and b1 (Nat.le_refl _) b2'
          have L1' := L1.below b2'
          clear b2' p1 p2 p3 p4 p5 p6 p7 p8
          obtain ⟨o2, c2, rfl, L2, z2, _⟩ := hF2.parts
          have kA2 := kA.below b2 (by omega)
          have kB2 := kB.below b2 (by omega)
          obtain ⟨p1, p2, p3, p4⟩ := id kA2
          obtain ⟨p5, p6, p7, p8⟩ := id kB2))
   all_goals (go_wp2_with fail; go_meet)
   all_goals (have hAf := after_put (a0 := .bool (decide (X < 0))) (a1 := .slice o1 (glim 4294967296 X.natAbs).length c1) (b0 := .bool (decide (Y < 0))) (b1 := .slice o2 (glim 4294967296 Y.natAbs).length c2) hB0 (by omega) b2; exact ⟨⟨o1, c1, o2, c2, (boxes_put kA kB (by omega) b2).1, (boxes_put kA kB (by omega) b2).2, (L1'.box kA2 _ _).box (kB2.far (by omega)) _ _, (L2.box kA2 _ _).box (kB2.far (by omega)) _ _, z1, z2, q1, q2⟩, hAf⟩)
 case rest =>
   obtain ⟨⟨o1, c1, o2, c2, kA', kB', L1, L2, z1, z2, q1, q2⟩, hAf⟩ := hcut
   have kC' := hAf.1 _ _ _ (by omega) (by omega) kC
   have hsz := hAf.2.1
   have hBx := hAf.2.2
   clear hAf kA kB kC f1 f2 f3 f4 f5 f6 f7 f8 hB0 hA hB
   obtain ⟨f1, f2, f3, f4⟩ := id kA'
   obtain ⟨f5, f6, f7, f8⟩ := id kB'
   by_cases hs : decide (X < 0) = decide (Y < 0)
   · have hs' : (decide (X < 0) == decide (Y < 0)) = true := by rw [hs]; simp
     have hsv := sv_add_same hs
     clear hs
     have hS : Hid (∀ w', Below wc.heap.size wc w' → w'.cell? ⟨w.heap.size, 0, none⟩ = some (.bool (decide (X < 0))) ∧ w'.cell? ⟨w.heap.size, 1, none⟩ = some (.slice o1 (glim 4294967296 X.natAbs).length c1) ∧ w'.cell? ⟨w.heap.size + 1, 0, none⟩ = some (.bool (decide (Y < 0))) ∧ w'.cell? ⟨w.heap.size + 1, 1, none⟩ = some (.slice o2 (glim 4294967296 Y.natAbs).length c2)) := fun w' hb => ⟨(kA'.below hb (by omega)).1, (kA'.below hb (by omega)).2.1, (kB'.below hb (by omega)).1, (kB'.below hb (by omega)).2.1⟩
     go_wp2
     refine wp_region_held_drew (S := fun w' => w'.cell? ⟨w.heap.size, 0, none⟩ = some (.bool (decide (X < 0))) ∧ w'.cell? ⟨w.heap.size, 1, none⟩ = some (.slice o1 (glim 4294967296 X.natAbs).length c1) ∧ w'.cell? ⟨w.heap.size + 1, 0, none⟩ = some (.bool (decide (Y < 0))) ∧ w'.cell? ⟨w.heap.size + 1, 1, none⟩ = some (.slice o2 (glim 4294967296 Y.natAbs).length c2)) (by kernel_rfl) (hS.out _ (Below.refl _ _).drew) (fun hHeld => ?_)
     refine wpAnyH_take (i := 0) (oi := _) (v := ?_) rfl (by kernel_rfl) (by kernel_rfl) (by kernel_rfl) (fun _ _ _ h => h) (Or.inl ⟨by rfl, ?_⟩) (by assumption) ?_
     rotate_left 1
     · (intro w hSw; (try dsimp only at hSw); go_simp; try with_reducible rfl)
     try simp (maxSteps := 10000000) only [zga, zgs, zgz, Act.put, zsa, zsz, zss]
     refine wpAnyH_take (i := 1) (oi := _) (v := ?_) rfl (by kernel_rfl) (by kernel_rfl) (by kernel_rfl) (fun _ _ _ h => h) (Or.inl ⟨by rfl, ?_⟩) (by assumption) ?_
     rotate_left 1
     · (intro w hSw; (try dsimp only at hSw); go_simp; try with_reducible rfl)
     try simp (maxSteps := 10000000) only [zga, zgs, zgz, Act.put, zsa, zsz, zss]
     refine wpAnyH_take (i := 2) (oi := _) (v := ?_) rfl (by kernel_rfl) (by kernel_rfl) (by kernel_rfl) (fun _ _ _ h => h) (Or.inl ⟨by rfl, ?_⟩) (by assumption) ?_
     rotate_left 1
     · (intro w hSw; (try dsimp only at hSw); go_simp; try with_reducible rfl)
     try simp (maxSteps := 10000000) only [zga, zgs, zgz, Act.put, zsa, zsz, zss]
     refine wpAnyH_take (i := 3) (oi := _) (v := ?_) rfl (by kernel_rfl) (by kernel_rfl) (by kernel_rfl) (fun _ _ _ h => h) (Or.inl ⟨by rfl, ?_⟩) (by assumption) ?_
     rotate_left 1
     · (intro w hSw; (try dsimp only at hSw); go_simp; try with_reducible rfl)
     try simp (maxSteps := 10000000) only [zga, zgs, zgz, Act.put, zsa, zsz, zss]
     refine wpAnyH_take (i := 4) (oi := _) (v := ?_) rfl (by kernel_rfl) (by kernel_rfl) (by kernel_rfl) (fun _ _ _ h => h) (Or.inl ⟨by rfl, ?_⟩) (by assumption) ?_
     rotate_left 1
     · (intro w hSw; (try dsimp only at hSw); go_simp; try with_reducible rfl)
     try simp (maxSteps := 10000000) only [zga, zgs, zgz, Act.put, zsa, zsz, zss]
     refine wpAnyH_take (i := 5) (oi := _) (v := ?_) rfl (by kernel_rfl) (by kernel_rfl) (by kernel_rfl) (fun _ _ _ h => h) (Or.inl ⟨by rfl, ?_⟩) (by assumption) ?_
     rotate_left 1
     · (intro w hSw; (try dsimp only at hSw); go_simp; try with_reducible rfl)
     try simp (maxSteps := 10000000) only [zga, zgs, zgz, Act.put, zsa, zsz, zss]
     refine wpAnyH_ready (rs := [6]) (by kernel_rfl) (by simp) ?_
     refine AllReadyH.cons rfl (fun K hK => ?_) AllReadyH.nil
     go_simp
     refine (plus_w o1 o2 c1 c2 _ _ _ (lm_glim (by omega) _) (lm_glim (by omega) _) (by omega) (by omega) L1.drew L2.drew).mono ?_
     rintro e w3 ⟨v3, L, rfl, hF3, hLm, hLv, hLl, _, b3'⟩
     have hLk : L.length ≤ kk + 1 := by omega
     clear hLl
     have b3 : Below wc.heap.size wc w3 := below_of_drew b3'
     clear b3'
     rw [gval_glim (by omega), gval_glim (by omega)] at hLv
     obtain ⟨o3, c3, rfl, L3, z3, _⟩ := hF3.parts
     have hN3 := (IsN.of_open (neg := (decide (X < 0))) (K := kk + 1) L3 z3 hLm hLk)
     rw [hLv, hsv] at hN3
     have hLv' := hid hLv
     clear hLv
     try go_simp
     refine hK.out _ _ ?_ (fun hHeld => ?_)
     · first | exact hSF | exact hS.out _ (by assumption) | assumption | go_keep
     clear hK K
     try simp (maxSteps := 10000000) only [zga, zgs, zgz, Act.put, zsa, zsz, zss]
     refine wpAnyH_take (i := 7) (oi := _) (v := ?_) rfl (by kernel_rfl) (by kernel_rfl) (by kernel_rfl) (fun _ _ _ h => h) (Or.inl ⟨by rfl, ?_⟩) (by assumption) ?_
     rotate_left 1
     · (intro w hSw; (try dsimp only at hSw); go_simp; try with_reducible rfl)
     try simp (maxSteps := 10000000) only [zga, zgs, zgz, Act.put, zsa, zsz, zss]
     refine wpAnyH_ready (rs := [8]) (by kernel_rfl) (by simp) ?_
     refine AllReadyH.cons rfl (fun K hK => ?_) AllReadyH.nil
     go_simp
     refine (rnorm_w _ (X + Y) (kk + 1) _ (by omega) hN3).mono ?_
     rintro e w4 ⟨s4, rfl, hF4, hk4, b4'⟩
     have b4 : Below wc.heap.size wc w4 := below_and b3 (Nat.le_refl _) b4'
     have hC4 := hF4.isC hk4
     obtain ⟨o4, c4, rfl, _, _, _⟩ := hF4.parts
     obtain ⟨d4, hd4⟩ : ∃ d, decide (X + Y < 0) = d := ⟨_, rfl⟩
     obtain ⟨n4, hn4⟩ : ∃ n, (glim 4294967296 (X + Y).natAbs).length = n := ⟨_, rfl⟩
     rw [hd4, hn4] at hC4 ⊢
     clear hd4 hn4
     have kA4 := kA'.below b4 (by omega)
     have kB4 := kB'.below b4 (by omega)
     have kC4 := kC'.below b4 (by omega)
     obtain ⟨g1, g2, g3, g4⟩ := id kC4
     try go_simp
     refine hK.out _ _ ?_ (fun hHeld => ?_)
     · first | exact hSF | exact hS.out _ (by assumption) | assumption | go_keep
     clear hK K
     try simp (maxSteps := 10000000) only [zga, zgs, zgz, Act.put, zsa, zsz, zss]
     refine wpAnyH_ready (rs := [9]) (by kernel_rfl) (by simp) ?_
     refine AllReadyH.cons rfl (fun K hK => ?_) AllReadyH.nil
     go_simp
     have hBf := ((below_and hBx (Nat.le_refl _) b4).setCell (p := ⟨w.heap.size + 1 + 1, 0, none⟩) (by simp; omega) (.bool d4)).setCell (p := ⟨w.heap.size + 1 + 1, 1, none⟩) (by simp; omega) (.slice o4 n4 c4)
     have kCf := kC4.put (u' := .bool d4) (v' := .slice o4 n4 c4)
     have kAf := kA4.far (k := w.heap.size + 1 + 1) (x := .bool d4) (y := .slice o4 n4 c4) (by omega)
     have kBf := kB4.far (k := w.heap.size + 1 + 1) (x := .bool d4) (y := .slice o4 n4 c4) (by omega)
     have hCf := hC4.box kC4 (x := .bool d4) (y := .slice o4 n4 c4)
     clear g1 g2 g3 g4 kA4 kB4 kC4
     generalize ((w4.setCell ⟨w.heap.size + 1 + 1, 0, none⟩ (.bool d4)).setCell ⟨w.heap.size + 1 + 1, 1, none⟩ (.slice o4 n4 c4)) = wF at *
     have hSF := And.intro kAf.1 (And.intro kAf.2.1 (And.intro kBf.1 kBf.2.1))
     obtain ⟨g1, g2, g3, g4⟩ := id kCf
     try go_simp
     refine hK.out _ _ ?_ (fun hHeld => ?_)
     · first | exact hSF | exact hS.out _ (by assumption) | assumption | go_keep
     clear hK K
     try simp (maxSteps := 10000000) only [zga, zgs, zgz, Act.put, zsa, zsz, zss]
     refine wpAnyH_done (by kernel_rfl) ?_ _
     go_wp2
     refine bodyPost_ret (v := .agg #[.bool d4, .slice o4 n4 c4]) (by simp [results, Tryz.results66, go_sem, g1, g2]) rfl ⟨_, rfl, hCf, hBf⟩
   · have hs' : (decide (X < 0) == decide (Y < 0)) = false := by simpa using hs
     go_wp2_with fail
     refine (mags_w o1 o2 c1 c2 _ _ _ (by omega) (by omega) L1 L2).mono ?_
     rintro e wd ⟨rfl, bd⟩
     have hBx' : Below w.heap.size w wd := below_and hBx (Nat.le_refl _) bd
     have kA2 := kA'.below bd (by omega)
     have kB2 := kB'.below bd (by omega)
     have kC2 := kC'.below bd (by omega)
     have L1' := L1.below bd
     have L2' := L2.below bd
     have hsz' := bd.size
     have hz' : w.heap.size + 3 ≤ wd.heap.size := by omega
     clear f1 f2 f3 f4 f5 f6 f7 f8 kA' kB' kC' hBx bd L1 L2 hsz hsz'
     have hBx := hBx'
     have kA' := kA2
     have kB' := kB2
     have kC' := kC2
     have L1 := L1'
     have L2 := L2'
     clear hBx' kA2 kB2 kC2 L1' L2'
     clear wc
     obtain ⟨wc, rfl⟩ : ∃ x, x = wd := ⟨_, rfl⟩
     obtain ⟨f1, f2, f3, f4⟩ := id kA'
     obtain ⟨f5, f6, f7, f8⟩ := id kB'
     have hS : Hid (∀ w', Below wc.heap.size wc w' → w'.cell? ⟨w.heap.size, 0, none⟩ = some (.bool (decide (X < 0))) ∧ w'.cell? ⟨w.heap.size, 1, none⟩ = some (.slice o1 (glim 4294967296 X.natAbs).length c1) ∧ w'.cell? ⟨w.heap.size + 1, 0, none⟩ = some (.bool (decide (Y < 0))) ∧ w'.cell? ⟨w.heap.size + 1, 1, none⟩ = some (.slice o2 (glim 4294967296 Y.natAbs).length c2)) := fun w' hb => ⟨(kA'.below hb (by omega)).1, (kA'.below hb (by omega)).2.1, (kB'.below hb (by omega)).1, (kB'.below hb (by omega)).2.1⟩
     by_cases hlt : X.natAbs < Y.natAbs
     · have hc : cmpZ (X.natAbs : Int) (Y.natAbs : Int) = -1 := cmpZ_lt (by omega)
       have hsv := sv_add_sub (fun e => hs e.symm) (by omega : X.natAbs ≤ Y.natAbs)
       rw [Int.add_comm] at hsv
       rw [hc]
       have hlen : (glim 4294967296 X.natAbs).length ≤ (glim 4294967296 Y.natAbs).length := Nat.le_of_not_lt fun h => by have := glim_len_lt (by omega) h; omega
       have hle : X.natAbs ≤ Y.natAbs := by omega
       clear hs hc
       go_wp2
       refine wp_region_held_drew (S := fun w' => w'.cell? ⟨w.heap.size, 0, none⟩ = some (.bool (decide (X < 0))) ∧ w'.cell? ⟨w.heap.size, 1, none⟩ = some (.slice o1 (glim 4294967296 X.natAbs).length c1) ∧ w'.cell? ⟨w.heap.size + 1, 0, none⟩ = some (.bool (decide (Y < 0))) ∧ w'.cell? ⟨w.heap.size + 1, 1, none⟩ = some (.slice o2 (glim 4294967296 Y.natAbs).length c2)) (by kernel_rfl) (hS.out _ (Below.refl _ _).drew) (fun hHeld => ?_)
       refine wpAnyH_take (i := 0) (oi := _) (v := ?_) rfl (by kernel_rfl) (by kernel_rfl) (by kernel_rfl) (fun _ _ _ h => h) (Or.inl ⟨by rfl, ?_⟩) (by assumption) ?_
       rotate_left 1
       · (intro w hSw; (try dsimp only at hSw); go_simp; try with_reducible rfl)
       try simp (maxSteps := 10000000) only [zga, zgs, zgz, Act.put, zsa, zsz, zss]
       refine wpAnyH_take (i := 1) (oi := _) (v := ?_) rfl (by kernel_rfl) (by kernel_rfl) (by kernel_rfl) (fun _ _ _ h => h) (Or.inl ⟨by rfl, ?_⟩) (by assumption) ?_
       rotate_left 1
       · (intro w hSw; (try dsimp only at hSw); go_simp; try with_reducible rfl)
       try simp (maxSteps := 10000000) only [zga, zgs, zgz, Act.put, zsa, zsz, zss]
       refine wpAnyH_take (i := 2) (oi := _) (v := ?_) rfl (by kernel_rfl) (by kernel_rfl) (by kernel_rfl) (fun _ _ _ h => h) (Or.inl ⟨by rfl, ?_⟩) (by assumption) ?_
       rotate_left 1
       · (intro w hSw; (try dsimp only at hSw); go_simp; try with_reducible rfl)
       try simp (maxSteps := 10000000) only [zga, zgs, zgz, Act.put, zsa, zsz, zss]
       refine wpAnyH_take (i := 3) (oi := _) (v := ?_) rfl (by kernel_rfl) (by kernel_rfl) (by kernel_rfl) (fun _ _ _ h => h) (Or.inl ⟨by rfl, ?_⟩) (by assumption) ?_
       rotate_left 1
       · (intro w hSw; (try dsimp only at hSw); go_simp; try with_reducible rfl)
       try simp (maxSteps := 10000000) only [zga, zgs, zgz, Act.put, zsa, zsz, zss]
       refine wpAnyH_take (i := 4) (oi := _) (v := ?_) rfl (by kernel_rfl) (by kernel_rfl) (by kernel_rfl) (fun _ _ _ h => h) (Or.inl ⟨by rfl, ?_⟩) (by assumption) ?_
       rotate_left 1
       · (intro w hSw; (try dsimp only at hSw); go_simp; try with_reducible rfl)
       try simp (maxSteps := 10000000) only [zga, zgs, zgz, Act.put, zsa, zsz, zss]
       refine wpAnyH_take (i := 5) (oi := _) (v := ?_) rfl (by kernel_rfl) (by kernel_rfl) (by kernel_rfl) (fun _ _ _ h => h) (Or.inl ⟨by rfl, ?_⟩) (by assumption) ?_
       rotate_left 1
       · (intro w hSw; (try dsimp only at hSw); go_simp; try with_reducible rfl)
       try simp (maxSteps := 10000000) only [zga, zgs, zgz, Act.put, zsa, zsz, zss]
       refine wpAnyH_ready (rs := [6]) (by kernel_rfl) (by simp) ?_
       refine AllReadyH.cons rfl (fun K hK => ?_) AllReadyH.nil
       go_simp
       refine (minus_w o2 o1 c2 c1 _ _ _ (lm_glim (by omega) _) (lm_glim (by omega) _) (by omega) hlen (by rw [gval_glim (by omega), gval_glim (by omega)]; exact hle) L2.drew L1.drew).mono ?_
       rintro e w3 ⟨v3, L, rfl, hF3, hLm, hLv, hLl, b3'⟩
       have hLk : L.length ≤ kk + 1 := by omega
       clear hLl
       have b3 : Below wc.heap.size wc w3 := below_of_drew b3'
       clear b3'
       rw [gval_glim (by omega), gval_glim (by omega)] at hLv
       obtain ⟨o3, c3, rfl, L3, z3, _⟩ := hF3.parts
       have hN3 := (IsN.of_open (neg := (decide (Y < 0))) (K := kk + 1) L3 z3 hLm hLk)
       rw [hLv, hsv] at hN3
       have hLv' := hid hLv
       clear hLv
       try go_simp
       refine hK.out _ _ ?_ (fun hHeld => ?_)
       · first | exact hSF | exact hS.out _ (by assumption) | assumption | go_keep
       clear hK K
       try simp (maxSteps := 10000000) only [zga, zgs, zgz, Act.put, zsa, zsz, zss]
       refine wpAnyH_take (i := 7) (oi := _) (v := ?_) rfl (by kernel_rfl) (by kernel_rfl) (by kernel_rfl) (fun _ _ _ h => h) (Or.inl ⟨by rfl, ?_⟩) (by assumption) ?_
       rotate_left 1
       · (intro w hSw; (try dsimp only at hSw); go_simp; try with_reducible rfl)
       try simp (maxSteps := 10000000) only [zga, zgs, zgz, Act.put, zsa, zsz, zss]
       refine wpAnyH_ready (rs := [8]) (by kernel_rfl) (by simp) ?_
       refine AllReadyH.cons rfl (fun K hK => ?_) AllReadyH.nil
       go_simp
       refine (rnorm_w _ (X + Y) (kk + 1) _ (by omega) hN3).mono ?_
       rintro e w4 ⟨s4, rfl, hF4, hk4, b4'⟩
       have b4 : Below wc.heap.size wc w4 := below_and b3 (Nat.le_refl _) b4'
       have hC4 := hF4.isC hk4
       obtain ⟨o4, c4, rfl, _, _, _⟩ := hF4.parts
       obtain ⟨d4, hd4⟩ : ∃ d, decide (X + Y < 0) = d := ⟨_, rfl⟩
       obtain ⟨n4, hn4⟩ : ∃ n, (glim 4294967296 (X + Y).natAbs).length = n := ⟨_, rfl⟩
       rw [hd4, hn4] at hC4 ⊢
       clear hd4 hn4
       have kA4 := kA'.below b4 (by omega)
       have kB4 := kB'.below b4 (by omega)
       have kC4 := kC'.below b4 (by omega)
       obtain ⟨g1, g2, g3, g4⟩ := id kC4
       try go_simp
       refine hK.out _ _ ?_ (fun hHeld => ?_)
       · first | exact hSF | exact hS.out _ (by assumption) | assumption | go_keep
       clear hK K
       try simp (maxSteps := 10000000) only [zga, zgs, zgz, Act.put, zsa, zsz, zss]
       refine wpAnyH_ready (rs := [9]) (by kernel_rfl) (by simp) ?_
       refine AllReadyH.cons rfl (fun K hK => ?_) AllReadyH.nil
       go_simp
       have hBf := ((below_and hBx (Nat.le_refl _) b4).setCell (p := ⟨w.heap.size + 1 + 1, 0, none⟩) (by simp; omega) (.bool d4)).setCell (p := ⟨w.heap.size + 1 + 1, 1, none⟩) (by simp; omega) (.slice o4 n4 c4)
       have kCf := kC4.put (u' := .bool d4) (v' := .slice o4 n4 c4)
       have kAf := kA4.far (k := w.heap.size + 1 + 1) (x := .bool d4) (y := .slice o4 n4 c4) (by omega)
       have kBf := kB4.far (k := w.heap.size + 1 + 1) (x := .bool d4) (y := .slice o4 n4 c4) (by omega)
       have hCf := hC4.box kC4 (x := .bool d4) (y := .slice o4 n4 c4)
       clear g1 g2 g3 g4 kA4 kB4 kC4
       generalize ((w4.setCell ⟨w.heap.size + 1 + 1, 0, none⟩ (.bool d4)).setCell ⟨w.heap.size + 1 + 1, 1, none⟩ (.slice o4 n4 c4)) = wF at *
       have hSF := And.intro kAf.1 (And.intro kAf.2.1 (And.intro kBf.1 kBf.2.1))
       obtain ⟨g1, g2, g3, g4⟩ := id kCf
       try go_simp
       refine hK.out _ _ ?_ (fun hHeld => ?_)
       · first | exact hSF | exact hS.out _ (by assumption) | assumption | go_keep
       clear hK K
       try simp (maxSteps := 10000000) only [zga, zgs, zgz, Act.put, zsa, zsz, zss]
       refine wpAnyH_done (by kernel_rfl) ?_ _
       go_wp2
       refine bodyPost_ret (v := .agg #[.bool d4, .slice o4 n4 c4]) (by simp [results, Tryz.results66, go_sem, g1, g2]) rfl ⟨_, rfl, hCf, hBf⟩
     · have hc : (0 : Int) ≤ cmpZ (X.natAbs : Int) (Y.natAbs : Int) := by unfold cmpZ; rw [if_neg (by omega)]; split <;> omega
       have hsv := sv_add_sub hs (by omega : Y.natAbs ≤ X.natAbs)
       have hlen : (glim 4294967296 Y.natAbs).length ≤ (glim 4294967296 X.natAbs).length := Nat.le_of_not_lt fun h => by have := glim_len_lt (by omega) h; omega
       have hle : Y.natAbs ≤ X.natAbs := by omega
       clear hs
       go_wp2
       refine wp_region_held_drew (S := fun w' => w'.cell? ⟨w.heap.size, 0, none⟩ = some (.bool (decide (X < 0))) ∧ w'.cell? ⟨w.heap.size, 1, none⟩ = some (.slice o1 (glim 4294967296 X.natAbs).length c1) ∧ w'.cell? ⟨w.heap.size + 1, 0, none⟩ = some (.bool (decide (Y < 0))) ∧ w'.cell? ⟨w.heap.size + 1, 1, none⟩ = some (.slice o2 (glim 4294967296 Y.natAbs).length c2)) (by kernel_rfl) (hS.out _ (Below.refl _ _).drew) (fun hHeld => ?_)
       refine wpAnyH_take (i := 0) (oi := _) (v := ?_) rfl (by kernel_rfl) (by kernel_rfl) (by kernel_rfl) (fun _ _ _ h => h) (Or.inl ⟨by rfl, ?_⟩) (by assumption) ?_
       rotate_left 1
       · (intro w hSw; (try dsimp only at hSw); go_simp; try with_reducible rfl)
       try simp (maxSteps := 10000000) only [zga, zgs, zgz, Act.put, zsa, zsz, zss]
       refine wpAnyH_take (i := 1) (oi := _) (v := ?_) rfl (by kernel_rfl) (by kernel_rfl) (by kernel_rfl) (fun _ _ _ h => h) (Or.inl ⟨by rfl, ?_⟩) (by assumption) ?_
       rotate_left 1
       · (intro w hSw; (try dsimp only at hSw); go_simp; try with_reducible rfl)
       try simp (maxSteps := 10000000) only [zga, zgs, zgz, Act.put, zsa, zsz, zss]
       refine wpAnyH_take (i := 2) (oi := _) (v := ?_) rfl (by kernel_rfl) (by kernel_rfl) (by kernel_rfl) (fun _ _ _ h => h) (Or.inl ⟨by rfl, ?_⟩) (by assumption) ?_
       rotate_left 1
       · (intro w hSw; (try dsimp only at hSw); go_simp; try with_reducible rfl)
       try simp (maxSteps := 10000000) only [zga, zgs, zgz, Act.put, zsa, zsz, zss]
       refine wpAnyH_take (i := 3) (oi := _) (v := ?_) rfl (by kernel_rfl) (by kernel_rfl) (by kernel_rfl) (fun _ _ _ h => h) (Or.inl ⟨by rfl, ?_⟩) (by assumption) ?_
       rotate_left 1
       · (intro w hSw; (try dsimp only at hSw); go_simp; try with_reducible rfl)
       try simp (maxSteps := 10000000) only [zga, zgs, zgz, Act.put, zsa, zsz, zss]
       refine wpAnyH_take (i := 4) (oi := _) (v := ?_) rfl (by kernel_rfl) (by kernel_rfl) (by kernel_rfl) (fun _ _ _ h => h) (Or.inl ⟨by rfl, ?_⟩) (by assumption) ?_
       rotate_left 1
       · (intro w hSw; (try dsimp only at hSw); go_simp; try with_reducible rfl)
       try simp (maxSteps := 10000000) only [zga, zgs, zgz, Act.put, zsa, zsz, zss]
       refine wpAnyH_take (i := 5) (oi := _) (v := ?_) rfl (by kernel_rfl) (by kernel_rfl) (by kernel_rfl) (fun _ _ _ h => h) (Or.inl ⟨by rfl, ?_⟩) (by assumption) ?_
       rotate_left 1
       · (intro w hSw; (try dsimp only at hSw); go_simp; try with_reducible rfl)
       try simp (maxSteps := 10000000) only [zga, zgs, zgz, Act.put, zsa, zsz, zss]
       refine wpAnyH_ready (rs := [6]) (by kernel_rfl) (by simp) ?_
       refine AllReadyH.cons rfl (fun K hK => ?_) AllReadyH.nil
       go_simp
       refine (minus_w o1 o2 c1 c2 _ _ _ (lm_glim (by omega) _) (lm_glim (by omega) _) (by omega) hlen (by rw [gval_glim (by omega), gval_glim (by omega)]; exact hle) L1.drew L2.drew).mono ?_
       rintro e w3 ⟨v3, L, rfl, hF3, hLm, hLv, hLl, b3'⟩
       have hLk : L.length ≤ kk + 1 := by omega
       clear hLl
       have b3 : Below wc.heap.size wc w3 := below_of_drew b3'
       clear b3'
       rw [gval_glim (by omega), gval_glim (by omega)] at hLv
       obtain ⟨o3, c3, rfl, L3, z3, _⟩ := hF3.parts
       have hN3 := (IsN.of_open (neg := (decide (X < 0))) (K := kk + 1) L3 z3 hLm hLk)
       rw [hLv, hsv] at hN3
       have hLv' := hid hLv
       clear hLv
       try go_simp
       refine hK.out _ _ ?_ (fun hHeld => ?_)
       · first | exact hSF | exact hS.out _ (by assumption) | assumption | go_keep
       clear hK K
       try simp (maxSteps := 10000000) only [zga, zgs, zgz, Act.put, zsa, zsz, zss]
       refine wpAnyH_take (i := 7) (oi := _) (v := ?_) rfl (by kernel_rfl) (by kernel_rfl) (by kernel_rfl) (fun _ _ _ h => h) (Or.inl ⟨by rfl, ?_⟩) (by assumption) ?_
       rotate_left 1
       · (intro w hSw; (try dsimp only at hSw); go_simp; try with_reducible rfl)
       try simp (maxSteps := 10000000) only [zga, zgs, zgz, Act.put, zsa, zsz, zss]
       refine wpAnyH_ready (rs := [8]) (by kernel_rfl) (by simp) ?_
       refine AllReadyH.cons rfl (fun K hK => ?_) AllReadyH.nil
       go_simp
       refine (rnorm_w _ (X + Y) (kk + 1) _ (by omega) hN3).mono ?_
       rintro e w4 ⟨s4, rfl, hF4, hk4, b4'⟩
       have b4 : Below wc.heap.size wc w4 := below_and b3 (Nat.le_refl _) b4'
       have hC4 := hF4.isC hk4
       obtain ⟨o4, c4, rfl, _, _, _⟩ := hF4.parts
       obtain ⟨d4, hd4⟩ : ∃ d, decide (X + Y < 0) = d := ⟨_, rfl⟩
       obtain ⟨n4, hn4⟩ : ∃ n, (glim 4294967296 (X + Y).natAbs).length = n := ⟨_, rfl⟩
       rw [hd4, hn4] at hC4 ⊢
       clear hd4 hn4
       have kA4 := kA'.below b4 (by omega)
       have kB4 := kB'.below b4 (by omega)
       have kC4 := kC'.below b4 (by omega)
       obtain ⟨g1, g2, g3, g4⟩ := id kC4
       try go_simp
       refine hK.out _ _ ?_ (fun hHeld => ?_)
       · first | exact hSF | exact hS.out _ (by assumption) | assumption | go_keep
       clear hK K
       try simp (maxSteps := 10000000) only [zga, zgs, zgz, Act.put, zsa, zsz, zss]
       refine wpAnyH_ready (rs := [9]) (by kernel_rfl) (by simp) ?_
       refine AllReadyH.cons rfl (fun K hK => ?_) AllReadyH.nil
       go_simp
       have hBf := ((below_and hBx (Nat.le_refl _) b4).setCell (p := ⟨w.heap.size + 1 + 1, 0, none⟩) (by simp; omega) (.bool d4)).setCell (p := ⟨w.heap.size + 1 + 1, 1, none⟩) (by simp; omega) (.slice o4 n4 c4)
       have kCf := kC4.put (u' := .bool d4) (v' := .slice o4 n4 c4)
       have kAf := kA4.far (k := w.heap.size + 1 + 1) (x := .bool d4) (y := .slice o4 n4 c4) (by omega)
       have kBf := kB4.far (k := w.heap.size + 1 + 1) (x := .bool d4) (y := .slice o4 n4 c4) (by omega)
       have hCf := hC4.box kC4 (x := .bool d4) (y := .slice o4 n4 c4)
       clear g1 g2 g3 g4 kA4 kB4 kC4
       generalize ((w4.setCell ⟨w.heap.size + 1 + 1, 0, none⟩ (.bool d4)).setCell ⟨w.heap.size + 1 + 1, 1, none⟩ (.slice o4 n4 c4)) = wF at *
       have hSF := And.intro kAf.1 (And.intro kAf.2.1 (And.intro kBf.1 kBf.2.1))
       obtain ⟨g1, g2, g3, g4⟩ := id kCf
       try go_simp
       refine hK.out _ _ ?_ (fun hHeld => ?_)
       · first | exact hSF | exact hS.out _ (by assumption) | assumption | go_keep
       clear hK K
       try simp (maxSteps := 10000000) only [zga, zgs, zgz, Act.put, zsa, zsz, zss]
       refine wpAnyH_done (by kernel_rfl) ?_ _
       go_wp2
       refine bodyPost_ret (v := .agg #[.bool d4, .slice o4 n4 c4]) (by simp [results, Tryz.results66, go_sem, g1, g2]) rfl ⟨_, rfl, hCf, hBf⟩
theorem wrap_cmp (x y : Int) : wrap64 (-cmpZ x y) = cmpZ y x := by
 rw [cmpZ_swap]
 unfold cmpZ wrap64
 split <;> (try split) <;> omega
set_option maxHeartbeats 1000000 in
theorem rcmp_w (va vb : Value) (X Y : Int) (kk : Nat) (w : World) (hK : kk ≤ 1000000) (ha : IsN va X kk w) (hb : IsN vb Y kk w) :
   Calls Tryz.prog 41 #[va, vb] w fun e w' => e = .returned (.int .i64 (cmpZ X Y)) ∧ Below w.heap.size w w' := by
 have hA : ∀ w', Below w.heap.size w w' → IsN va X kk w' := fun w' hw => ha.below hw
 have hB : ∀ w', Below w.heap.size w w' → IsN vb Y kk w' := fun w' hw => hb.below hw
 obtain ⟨na, oa, la, ca, rfl, hLa, hca, hma, hsa, hka⟩ := ha
 obtain ⟨nb, ob, lb, cb, rfl, hLb, hcb, hmb, hsb, hkb⟩ := hb
 clear hsa hsb hma hmb hLa hLb hca hcb hka hkb
 obtain ⟨kA, kB, hB0, hz0⟩ := boxes2 w (.bool na) (.slice oa la.length ca) (.bool nb) (.slice ob lb.length cb) 68 68
 obtain ⟨R, hR⟩ : ∃ R, cmpZ X Y = R := ⟨_, rfl⟩
 rw [hR]
 have hRH := hid hR
 clear hR
 go_enter Tryz.func41, Tryz.ntmps41
 go_wp2
 generalize ((w.alloc (.cells #[.bool na, .slice oa la.length ca] 68)).alloc (.cells #[.bool nb, .slice ob lb.length cb] 68)) = W0 at *
 obtain ⟨f1, f2, f3, f4⟩ := id kA
 obtain ⟨f5, f6, f7, f8⟩ := id kB
 go_cut [] from 6 to 9 (fun wx => Two X Y kk w wx ∧ After w W0 wx)
 case first =>
   go_region_with (first
       | (go_at_call_of 67 oa
          refine (rnorm_w _ X kk _ (by omega) (hA _ hB0.drew)).mono ?_
          rintro e w1 ⟨s1, rfl, hF1, q1, b1'⟩
          have b1 : Below W0.heap.size W0 w1 := ((Below.refl _ W0).drew).trans b1'
          clear b1'
          obtain ⟨o1, c1, rfl, L1, z1, _⟩ := hF1.parts
          have hB1 : Below w.heap.size w w1 := below_and hB0 (Nat.le_refl _) b1
          have hz1 := b1.size
          obtain ⟨p1, p2, p3, p4⟩ := kA.below b1 (by omega)
          obtain ⟨p5, p6, p7, p8⟩ := kB.below b1 (by omega))
       | (go_at_call_of 67 ob
          refine (rnorm_w _ Y kk _ (by omega) (hB _ hB1)).mono ?_
          rintro e w2 ⟨s2, rfl, hF2, q2, b2'⟩
          have b2 : Below W0.heap.size W0 w2 := below_and b1 (Nat.le_refl _) b2'
          have L1' := L1.below b2'
          clear b2' p1 p2 p3 p4 p5 p6 p7 p8
          obtain ⟨o2, c2, rfl, L2, z2, _⟩ := hF2.parts
          have kA2 := kA.below b2 (by omega)
          have kB2 := kB.below b2 (by omega)
          obtain ⟨p1, p2, p3, p4⟩ := id kA2
          obtain ⟨p5, p6, p7, p8⟩ := id kB2))
   all_goals (go_wp2_with fail; go_meet)
   all_goals (have hAf := after_put (a0 := .bool (decide (X < 0))) (a1 := .slice o1 (glim 4294967296 X.natAbs).length c1) (b0 := .bool (decide (Y < 0))) (b1 := .slice o2 (glim 4294967296 Y.natAbs).length c2) hB0 (by omega) b2; exact ⟨⟨o1, c1, o2, c2, (boxes_put kA kB (by omega) b2).1, (boxes_put kA kB (by omega) b2).2, (L1'.box kA2 _ _).box (kB2.far (by omega)) _ _, (L2.box kA2 _ _).box (kB2.far (by omega)) _ _, z1, z2, q1, q2⟩, hAf⟩)
 case rest =>
   obtain ⟨⟨o1, c1, o2, c2, kA', kB', L1, L2, z1, z2, q1, q2⟩, hAf⟩ := hcut
   have hsz := hAf.2.1
   have hBx := hAf.2.2
   clear hAf kA kB f1 f2 f3 f4 f5 f6 f7 f8 hB0 hA hB
   have bA := kA'.lt
   obtain ⟨f1, f2, f3, f4⟩ := id kA'
   obtain ⟨f5, f6, f7, f8⟩ := id kB'
   by_cases hx : X < 0
   · have hdx : decide (X < 0) = true := by simp [hx]
     rw [hdx] at f1 kA'
     by_cases hy : Y < 0
     · have hdy : decide (Y < 0) = true := by simp [hy]
       rw [hdy] at f5
       have hres : R = cmpZ (Y.natAbs : Int) (X.natAbs : Int) := by
         rw [← hRH.out, ← cmpZ_neg]; congr 1 <;> omega
       have Hres := hid hres
       clear hx hy hdx hdy hRH hres
       go_wp2_with fail
       refine (mags_w o1 o2 c1 c2 _ _ _ (by omega) (by omega) L1 L2).mono ?_
       rintro e wd ⟨rfl, bd⟩
       obtain ⟨g1, g2, g3, g4⟩ := id (kA'.below bd bA)
       go_wp2
       go_ret
       exact ⟨by rw [Hres.out]; exact congrArg (fun z => Ending.returned (Value.int .i64 z)) (wrap_cmp _ _), below_and hBx (Nat.le_refl _) bd⟩
     · have hdy : decide (Y < 0) = false := by simp [hy]
       rw [hdy] at f5
       have hres : R = -1 := by rw [← hRH.out, cmpZ_lt (by omega)]
       clear hx hy hdx hdy hRH
       go_wp2
       go_ret
       exact ⟨by rw [hres]; rfl, hBx⟩
   · have hdx : decide (X < 0) = false := by simp [hx]
     rw [hdx] at f1 kA'
     by_cases hy : Y < 0
     · have hdy : decide (Y < 0) = true := by simp [hy]
       rw [hdy] at f5
       have hres : R = 1 := by rw [← hRH.out, cmpZ_gt (by omega)]
       clear hx hy hdx hdy hRH
       go_wp2
       go_ret
       exact ⟨by rw [hres]; rfl, hBx⟩
     · have hdy : decide (Y < 0) = false := by simp [hy]
       rw [hdy] at f5
       have hres : R = cmpZ (X.natAbs : Int) (Y.natAbs : Int) := by
         rw [← hRH.out]; congr 1 <;> omega
       have Hres := hid hres
       clear hx hy hdx hdy hRH hres
       go_wp2_with fail
       refine (mags_w o1 o2 c1 c2 _ _ _ (by omega) (by omega) L1 L2).mono ?_
       rintro e wd ⟨rfl, bd⟩
       obtain ⟨g1, g2, g3, g4⟩ := id (kA'.below bd bA)
       go_wp2
       go_ret
       exact ⟨by rw [Hres.out]; rfl, below_and hBx (Nat.le_refl _) bd⟩
structure Bx (g : Nat) (a0 a1 a2 a3 a4 a5 a6 : Value) (w : World) : Prop where
 c0 : w.cell? ⟨g, 0, none⟩ = some a0
 c1 : w.cell? ⟨g, 1, none⟩ = some a1
 c2 : w.cell? ⟨g, 2, none⟩ = some a2
 c3 : w.cell? ⟨g, 3, none⟩ = some a3
 c4 : w.cell? ⟨g, 4, none⟩ = some a4
 c5 : w.cell? ⟨g, 5, none⟩ = some a5
 c6 : w.cell? ⟨g, 6, none⟩ = some a6
 fr : ∀ j, w.frozen? ⟨g, j, none⟩ = false
theorem Bx.lt {g : Nat} {a0 a1 a2 a3 a4 a5 a6 : Value} {w : World} (h : Bx g a0 a1 a2 a3 a4 a5 a6 w) : g < w.heap.size := World.block_lt_of_cell? _ _ h.c0
theorem Bx.of_block {g : Nat} {a0 a1 a2 a3 a4 a5 a6 : Value} {w w' : World} (h : Bx g a0 a1 a2 a3 a4 a5 a6 w) (hb : w'.heap[g]? = w.heap[g]?) : Bx g a0 a1 a2 a3 a4 a5 a6 w' :=
 ⟨(World.cell?_of_block (a := ⟨g, 0, none⟩) hb).trans h.c0, (World.cell?_of_block (a := ⟨g, 1, none⟩) hb).trans h.c1, (World.cell?_of_block (a := ⟨g, 2, none⟩) hb).trans h.c2, (World.cell?_of_block (a := ⟨g, 3, none⟩) hb).trans h.c3, (World.cell?_of_block (a := ⟨g, 4, none⟩) hb).trans h.c4, (World.cell?_of_block (a := ⟨g, 5, none⟩) hb).trans h.c5, (World.cell?_of_block (a := ⟨g, 6, none⟩) hb).trans h.c6, fun j => (World.frozen?_of_block (a := ⟨g, j, none⟩) hb).trans (h.fr j)⟩
theorem Bx.below {g : Nat} {a0 a1 a2 a3 a4 a5 a6 : Value} {w w' : World} (h : Bx g a0 a1 a2 a3 a4 a5 a6 w) (hb : Below w.heap.size w w') : Bx g a0 a1 a2 a3 a4 a5 a6 w' := h.of_block (hb.block g h.lt)
theorem Bx.new (w : World) (a0 a1 a2 a3 a4 a5 a6 : Value) (t : TypeId) : Bx w.heap.size a0 a1 a2 a3 a4 a5 a6 (w.alloc (.cells #[a0, a1, a2, a3, a4, a5, a6] t)) := by
 refine ⟨?_, ?_, ?_, ?_, ?_, ?_, ?_, fun j => by rw [World.frozen?_alloc_mark]; simp⟩
 all_goals (rw [World.cell?_alloc_mark]; rfl)
theorem cell_set_other (w : World) (g i j : Nat) (v : Value) (h : i ≠ j) : (w.setCell ⟨g, i, none⟩ v).cell? ⟨g, j, none⟩ = w.cell? ⟨g, j, none⟩ := World.cell?_setCell_other w ⟨g, i, none⟩ ⟨g, j, none⟩ _ (by simp [h])
theorem fr_set (w : World) (g i : Nat) (v : Value) (p : Addr) : (w.setCell ⟨g, i, none⟩ v).frozen? p = w.frozen? p := World.frozen?_setCells g [v] i w p
theorem only_set (w : World) (g i : Nat) (v : Value) : Only g w (w.setCell ⟨g, i, none⟩ v) := (Only.refl g w).setCell i v
theorem Bx.s0 {g : Nat} {a0 a1 a2 a3 a4 a5 a6 : Value} {w : World} (h : Bx g a0 a1 a2 a3 a4 a5 a6 w) (x : Value) : Bx g x a1 a2 a3 a4 a5 a6 (w.setCell ⟨g, 0, none⟩ x) :=
 ⟨World.cell?_setCell_same _ _ _ h.c0, (cell_set_other w g 0 1 x (by decide)).trans h.c1, (cell_set_other w g 0 2 x (by decide)).trans h.c2, (cell_set_other w g 0 3 x (by decide)).trans h.c3, (cell_set_other w g 0 4 x (by decide)).trans h.c4, (cell_set_other w g 0 5 x (by decide)).trans h.c5, (cell_set_other w g 0 6 x (by decide)).trans h.c6, fun j => (fr_set w g 0 x _).trans (h.fr j)⟩
theorem Bx.s1 {g : Nat} {a0 a1 a2 a3 a4 a5 a6 : Value} {w : World} (h : Bx g a0 a1 a2 a3 a4 a5 a6 w) (x : Value) : Bx g a0 x a2 a3 a4 a5 a6 (w.setCell ⟨g, 1, none⟩ x) :=
 ⟨(cell_set_other w g 1 0 x (by decide)).trans h.c0, World.cell?_setCell_same _ _ _ h.c1, (cell_set_other w g 1 2 x (by decide)).trans h.c2, (cell_set_other w g 1 3 x (by decide)).trans h.c3, (cell_set_other w g 1 4 x (by decide)).trans h.c4, (cell_set_other w g 1 5 x (by decide)).trans h.c5, (cell_set_other w g 1 6 x (by decide)).trans h.c6, fun j => (fr_set w g 1 x _).trans (h.fr j)⟩
theorem Bx.s2 {g : Nat} {a0 a1 a2 a3 a4 a5 a6 : Value} {w : World} (h : Bx g a0 a1 a2 a3 a4 a5 a6 w) (x : Value) : Bx g a0 a1 x a3 a4 a5 a6 (w.setCell ⟨g, 2, none⟩ x) :=
 ⟨(cell_set_other w g 2 0 x (by decide)).trans h.c0, (cell_set_other w g 2 1 x (by decide)).trans h.c1, World.cell?_setCell_same _ _ _ h.c2, (cell_set_other w g 2 3 x (by decide)).trans h.c3, (cell_set_other w g 2 4 x (by decide)).trans h.c4, (cell_set_other w g 2 5 x (by decide)).trans h.c5, (cell_set_other w g 2 6 x (by decide)).trans h.c6, fun j => (fr_set w g 2 x _).trans (h.fr j)⟩
theorem Bx.s3 {g : Nat} {a0 a1 a2 a3 a4 a5 a6 : Value} {w : World} (h : Bx g a0 a1 a2 a3 a4 a5 a6 w) (x : Value) : Bx g a0 a1 a2 x a4 a5 a6 (w.setCell ⟨g, 3, none⟩ x) :=
 ⟨(cell_set_other w g 3 0 x (by decide)).trans h.c0, (cell_set_other w g 3 1 x (by decide)).trans h.c1, (cell_set_other w g 3 2 x (by decide)).trans h.c2, World.cell?_setCell_same _ _ _ h.c3, (cell_set_other w g 3 4 x (by decide)).trans h.c4, (cell_set_other w g 3 5 x (by decide)).trans h.c5, (cell_set_other w g 3 6 x (by decide)).trans h.c6, fun j => (fr_set w g 3 x _).trans (h.fr j)⟩
theorem Bx.s4 {g : Nat} {a0 a1 a2 a3 a4 a5 a6 : Value} {w : World} (h : Bx g a0 a1 a2 a3 a4 a5 a6 w) (x : Value) : Bx g a0 a1 a2 a3 x a5 a6 (w.setCell ⟨g, 4, none⟩ x) :=
 ⟨(cell_set_other w g 4 0 x (by decide)).trans h.c0, (cell_set_other w g 4 1 x (by decide)).trans h.c1, (cell_set_other w g 4 2 x (by decide)).trans h.c2, (cell_set_other w g 4 3 x (by decide)).trans h.c3, World.cell?_setCell_same _ _ _ h.c4, (cell_set_other w g 4 5 x (by decide)).trans h.c5, (cell_set_other w g 4 6 x (by decide)).trans h.c6, fun j => (fr_set w g 4 x _).trans (h.fr j)⟩
theorem Bx.s5 {g : Nat} {a0 a1 a2 a3 a4 a5 a6 : Value} {w : World} (h : Bx g a0 a1 a2 a3 a4 a5 a6 w) (x : Value) : Bx g a0 a1 a2 a3 a4 x a6 (w.setCell ⟨g, 5, none⟩ x) :=
 ⟨(cell_set_other w g 5 0 x (by decide)).trans h.c0, (cell_set_other w g 5 1 x (by decide)).trans h.c1, (cell_set_other w g 5 2 x (by decide)).trans h.c2, (cell_set_other w g 5 3 x (by decide)).trans h.c3, (cell_set_other w g 5 4 x (by decide)).trans h.c4, World.cell?_setCell_same _ _ _ h.c5, (cell_set_other w g 5 6 x (by decide)).trans h.c6, fun j => (fr_set w g 5 x _).trans (h.fr j)⟩
theorem Bx.s6 {g : Nat} {a0 a1 a2 a3 a4 a5 a6 : Value} {w : World} (h : Bx g a0 a1 a2 a3 a4 a5 a6 w) (x : Value) : Bx g a0 a1 a2 a3 a4 a5 x (w.setCell ⟨g, 6, none⟩ x) :=
 ⟨(cell_set_other w g 6 0 x (by decide)).trans h.c0, (cell_set_other w g 6 1 x (by decide)).trans h.c1, (cell_set_other w g 6 2 x (by decide)).trans h.c2, (cell_set_other w g 6 3 x (by decide)).trans h.c3, (cell_set_other w g 6 4 x (by decide)).trans h.c4, (cell_set_other w g 6 5 x (by decide)).trans h.c5, World.cell?_setCell_same _ _ _ h.c6, fun j => (fr_set w g 6 x _).trans (h.fr j)⟩
theorem Bx.put {g : Nat} {a0 a1 a2 a3 a4 a5 a6 b0 b1 b2 b3 b4 b5 b6 : Value} {w : World} (h : Bx g a0 a1 a2 a3 a4 a5 a6 w) :
   Bx g b0 b1 b2 b3 b4 b5 b6 (((((((w.setCell ⟨g, 0, none⟩ b0).setCell ⟨g, 1, none⟩ b1).setCell ⟨g, 2, none⟩ b2).setCell ⟨g, 3, none⟩ b3).setCell ⟨g, 4, none⟩ b4).setCell ⟨g, 5, none⟩ b5).setCell ⟨g, 6, none⟩ b6) :=
 ((((((h.s0 b0).s1 b1).s2 b2).s3 b3).s4 b4).s5 b5).s6 b6
theorem only_put (w : World) (g : Nat) (b0 b1 b2 b3 b4 b5 b6 : Value) : Only g w (((((((w.setCell ⟨g, 0, none⟩ b0).setCell ⟨g, 1, none⟩ b1).setCell ⟨g, 2, none⟩ b2).setCell ⟨g, 3, none⟩ b3).setCell ⟨g, 4, none⟩ b4).setCell ⟨g, 5, none⟩ b5).setCell ⟨g, 6, none⟩ b6) :=
 ((((((only_set w g 0 b0).setCell 1 b1).setCell 2 b2).setCell 3 b3).setCell 4 b4).setCell 5 b5).setCell 6 b6
theorem Bx.only {g k : Nat} {a0 a1 a2 a3 a4 a5 a6 : Value} {w w' : World} (h : Bx k a0 a1 a2 a3 a4 a5 a6 w) (ho : Only g w w') (hk : k ≠ g) : Bx k a0 a1 a2 a3 a4 a5 a6 w' := h.of_block (ho.2.2 k hk)
abbrev nilS : Value := .slice none 0 0
abbrev noS : ByteArray := { data := #[] }
abbrev tmV (k : Int) (neg : Bool) (D : Value) (nm : ByteArray) (n : Int) (L B : Value) : Value := .agg #[.int .i64 k, .bool neg, D, .string nm, .int .i64 n, L, B]
def prV (k : Int) (neg : Bool) (D : Value) (nm : ByteArray) (n : Int) (L B : Value) : Value :=
 if k = 0 then tmV 0 neg D noS 0 nilS nilS
 else if k = 1 then tmV 1 false nilS nm 0 nilS nilS
 else if k = 2 then tmV 2 false nilS noS n nilS nilS
 else if k = 3 then tmV 3 false nilS noS n nilS nilS
 else if k = 4 then tmV 4 false nilS noS 0 L nilS
 else if k = 6 then tmV 6 false nilS noS 0 L nilS
 else if k = 7 then tmV 7 false nilS noS 0 nilS B
 else tmV 5 false nilS noS 0 nilS nilS
set_option maxHeartbeats 1000000 in
theorem Nil_w (w : World) : Calls Tryz.prog 50 #[] w fun e w' => e = .returned (tmV 5 false nilS noS 0 nilS nilS) ∧ Below w.heap.size w w' := by
 go_enter Tryz.func50, Tryz.ntmps50
 go_wp2
 exact bodyPost_ret (v := tmV 5 false nilS noS 0 nilS nilS) (by simp [results, Tryz.results50, go_sem]) rfl ⟨rfl, (Below.refl _ w).alloc (Nat.le_refl _) _⟩
theorem bx2 (w : World) (a0 a1 a2 a3 a4 a5 a6 b0 b1 b2 b3 b4 b5 b6 : Value) (ta tb : TypeId) :
   Bx w.heap.size a0 a1 a2 a3 a4 a5 a6 ((w.alloc (.cells #[a0, a1, a2, a3, a4, a5, a6] ta)).alloc (.cells #[b0, b1, b2, b3, b4, b5, b6] tb)) ∧ Bx (w.heap.size + 1) b0 b1 b2 b3 b4 b5 b6 ((w.alloc (.cells #[a0, a1, a2, a3, a4, a5, a6] ta)).alloc (.cells #[b0, b1, b2, b3, b4, b5, b6] tb)) ∧ Below w.heap.size w ((w.alloc (.cells #[a0, a1, a2, a3, a4, a5, a6] ta)).alloc (.cells #[b0, b1, b2, b3, b4, b5, b6] tb)) ∧ ((w.alloc (.cells #[a0, a1, a2, a3, a4, a5, a6] ta)).alloc (.cells #[b0, b1, b2, b3, b4, b5, b6] tb)).heap.size = w.heap.size + 2 := by
 have h1 := Bx.new w a0 a1 a2 a3 a4 a5 a6 ta
 have h2 := Bx.new (w.alloc (.cells #[a0, a1, a2, a3, a4, a5, a6] ta)) b0 b1 b2 b3 b4 b5 b6 tb
 rw [World.size_alloc] at h2
 exact ⟨h1.below ((Below.refl _ _).alloc (Nat.le_refl _) _), h2, ((Below.refl _ w).alloc (Nat.le_refl _) _).alloc (by simp) _, by simp⟩
set_option maxHeartbeats 2000000 in
theorem pruned_w (k : Int) (neg : Bool) (od : Option Addr) (ld cd : Nat) (nm : ByteArray) (n : Int) (ol : Option Addr) (ll cl : Nat) (ob : Option Addr) (lb cb : Nat) (w : World) :
   Calls Tryz.prog 61 #[tmV k neg (.slice od ld cd) nm n (.slice ol ll cl) (.slice ob lb cb)] w fun e w' => e = .returned (prV k neg (.slice od ld cd) nm n (.slice ol ll cl) (.slice ob lb cb)) ∧ Below w.heap.size w w' := by
 by_cases h0 : k = 0
 · subst h0
   go_enter Tryz.func61, Tryz.ntmps61
   go_wp2
   exact bodyPost_ret (v := tmV 0 neg (.slice od ld cd) noS 0 nilS nilS) (by simp [results, Tryz.results61, go_sem]) rfl ⟨by simp [prV, *], ((Below.refl _ w).alloc (Nat.le_refl _) _).alloc (by simp) _⟩
 by_cases h1 : k = 1
 · subst h1
   go_enter Tryz.func61, Tryz.ntmps61
   go_wp2
   exact bodyPost_ret (v := tmV 1 false nilS nm 0 nilS nilS) (by simp [results, Tryz.results61, go_sem]) rfl ⟨by simp [prV, *], ((Below.refl _ w).alloc (Nat.le_refl _) _).alloc (by simp) _⟩
 by_cases h2 : k = 2
 · subst h2
   go_enter Tryz.func61, Tryz.ntmps61
   go_wp2
   exact bodyPost_ret (v := tmV 2 false nilS noS n nilS nilS) (by simp [results, Tryz.results61, go_sem]) rfl ⟨by simp [prV, *], ((Below.refl _ w).alloc (Nat.le_refl _) _).alloc (by simp) _⟩
 by_cases h3 : k = 3
 · subst h3
   go_enter Tryz.func61, Tryz.ntmps61
   go_wp2
   exact bodyPost_ret (v := tmV 3 false nilS noS n nilS nilS) (by simp [results, Tryz.results61, go_sem]) rfl ⟨by simp [prV, *], ((Below.refl _ w).alloc (Nat.le_refl _) _).alloc (by simp) _⟩
 by_cases h4 : k = 4
 · subst h4
   go_enter Tryz.func61, Tryz.ntmps61
   go_wp2
   exact bodyPost_ret (v := tmV 4 false nilS noS 0 (.slice ol ll cl) nilS) (by simp [results, Tryz.results61, go_sem]) rfl ⟨by simp [prV, *], ((Below.refl _ w).alloc (Nat.le_refl _) _).alloc (by simp) _⟩
 by_cases h6 : k = 6
 · subst h6
   go_enter Tryz.func61, Tryz.ntmps61
   go_wp2
   exact bodyPost_ret (v := tmV 6 false nilS noS 0 (.slice ol ll cl) nilS) (by simp [results, Tryz.results61, go_sem]) rfl ⟨by simp [prV, *], ((Below.refl _ w).alloc (Nat.le_refl _) _).alloc (by simp) _⟩
 by_cases h7 : k = 7
 · subst h7
   go_enter Tryz.func61, Tryz.ntmps61
   go_wp2
   exact bodyPost_ret (v := tmV 7 false nilS noS 0 nilS (.slice ob lb cb)) (by simp [results, Tryz.results61, go_sem]) rfl ⟨by simp [prV, *], ((Below.refl _ w).alloc (Nat.le_refl _) _).alloc (by simp) _⟩
 have e0 : (k == 0) = false := by simp [h0]
 have e1 : (k == 1) = false := by simp [h1]
 have e2 : (k == 2) = false := by simp [h2]
 have e3 : (k == 3) = false := by simp [h3]
 have e4 : (k == 4) = false := by simp [h4]
 have e6 : (k == 6) = false := by simp [h6]
 have e7 : (k == 7) = false := by simp [h7]
 go_enter Tryz.func61, Tryz.ntmps61
 obtain ⟨kA, kB, hB0, hz0⟩ := bx2 w (.int .i64 k) (.bool neg) (.slice od ld cd) (.string nm) (.int .i64 n) (.slice ol ll cl) (.slice ob lb cb) (.int .i64 0) (.bool false) nilS (.string noS) (.int .i64 0) nilS nilS 27 27
 go_wp2_with fail
 generalize ((w.alloc (.cells #[.int .i64 k, .bool neg, .slice od ld cd, .string nm, .int .i64 n, .slice ol ll cl, .slice ob lb cb] 27)).alloc (.cells #[.int .i64 0, .bool false, .slice none 0 0, .string { data := #[] }, .int .i64 0, .slice none 0 0, .slice none 0 0] 27)) = W0 at *
 refine (Nil_w _).mono ?_
 rintro e w1 ⟨rfl, b1⟩
 have kB1 := kB.below b1
 have hf := kB1.fr
 obtain ⟨r0, r1, r2, r3, r4, r5, r6, _⟩ := kB1.put (b0 := .int .i64 5) (b1 := .bool false) (b2 := nilS) (b3 := .string noS) (b4 := .int .i64 0) (b5 := nilS) (b6 := nilS)
 obtain ⟨f0, f1, f2, f3, f4, f5, f6, _⟩ := id kB1
 go_wp2
 exact bodyPost_ret (v := tmV 5 false nilS noS 0 nilS nilS) (by simp [results, Tryz.results61, go_sem, r0, r1, r2, r3, r4, r5, r6]) rfl ⟨by simp [prV, *], (only_put w1 (w.heap.size + 1) _ _ _ _ _ _ _).below (B := w.heap.size) (by omega) |> (below_and hB0 (Nat.le_refl _) b1).trans⟩
inductive Tm where
 | mk (k : Int) (neg : Bool) (d : List Nat) (nm : ByteArray) (n : Int) (l : List Tm) (b : List Nat) : Tm
structure Kept (F : Nat → Prop) (w w' : World) : Prop where
 os : w'.os = w.os
 tape : w'.tape = w.tape
 output : w'.output = w.output
 size : w.heap.size ≤ w'.heap.size
 block : ∀ k, k < w.heap.size → ¬ F k → w'.heap[k]? = w.heap[k]?
theorem Kept.trans {F : Nat → Prop} {a b c : World} (h : Kept F a b) (k : Kept F b c) : Kept F a c :=
 ⟨k.os.trans h.os, k.tape.trans h.tape, k.output.trans h.output, Nat.le_trans h.size k.size, fun i hi hn => (k.block i (Nat.lt_of_lt_of_le hi h.size) hn).trans (h.block i hi hn)⟩
theorem Kept.then {F G : Nat → Prop} {a b c : World} (h : Kept F a b) (k : Kept G b c) (hG : ∀ i, G i → F i ∨ a.heap.size ≤ i) : Kept F a c :=
 ⟨k.os.trans h.os, k.tape.trans h.tape, k.output.trans h.output, Nat.le_trans h.size k.size, fun i hi hn => (k.block i (Nat.lt_of_lt_of_le hi h.size) (fun g => (hG i g).elim hn (fun h => by omega))).trans (h.block i hi hn)⟩
theorem Kept.mono {F G : Nat → Prop} {w w' : World} (h : Kept F w w') (hF : ∀ k, F k → G k) : Kept G w w' := ⟨h.os, h.tape, h.output, h.size, fun k hk hn => h.block k hk (fun hf => hn (hF k hf))⟩
theorem Kept.of_below {F : Nat → Prop} {w w' : World} (h : Below w.heap.size w w') : Kept F w w' := ⟨h.os, h.tape, h.output, h.size, fun k hk _ => h.block k hk⟩
theorem Kept.of_grown {F : Nat → Prop} {w w' : World} {row : Option Nat} (h : w.grownBy w' row) (hr : ∀ k, row = some k → F k) : Kept F w w' :=
 ⟨h.os, h.tape, h.output, h.size, fun k hk hn => h.block k hk (fun e => hn (hr k e.symm))⟩
theorem Kept.of_alloc {F : Nat → Prop} (w : World) (o : Obj) : Kept F w (w.alloc o) := Kept.of_below ((Below.refl _ w).alloc (Nat.le_refl _) o)
theorem Kept.of_set {F : Nat → Prop} (w : World) {p : Addr} (hp : F p.block) (u : Value) : Kept F w (w.setCell p u) :=
 ⟨rfl, rfl, rfl, by simp, fun k _ hn => Below.heap_setCell w p u k (fun e => hn (e ▸ hp))⟩
theorem Kept.below {F : Nat → Prop} {B : Nat} {w w' : World} (h : Kept F w w') (hB : B ≤ w.heap.size) (hF : ∀ k, F k → B ≤ k) : Below B w w' :=
 ⟨h.os, h.tape, h.output, h.size, fun k hk => h.block k (by omega) (fun hf => by have := hF k hf; omega)⟩
def Ls (Z : Nat → Prop) (o : Option Addr) (vs : List Value) (w : World) : Prop := ∀ (j : Nat) (u : Value), vs[j]? = some u → ∃ a, o = some a ∧ Z a.block ∧ w.cell? (a.add j) = some u
theorem block_add (a : Addr) (n : Nat) : (a.add n).block = a.block := by unfold Addr.add; split <;> rfl
theorem add_add (a : Addr) (m n : Nat) : (a.add m).add n = a.add (m + n) := by
 unfold Addr.add
 by_cases h : m = 0
 · subst h; simp
 · by_cases h2 : n = 0
   · subst h2; simp [h]
   · simp [h, h2, Nat.add_assoc]
theorem add_zero (a : Addr) : a.add 0 = a := by simp [Addr.add]
def Zs (Z : Nat → Prop) (w w' : World) : Prop := ∀ k, Z k → w'.heap[k]? = w.heap[k]?
theorem Zs.cell {Z : Nat → Prop} {w w' : World} (h : Zs Z w w') {a : Addr} (hz : Z a.block) (n : Nat) : w'.cell? (a.add n) = w.cell? (a.add n) := World.cell?_of_block (a := a.add n) (by rw [block_add]; exact h _ hz)
theorem Ls.zs {Z : Nat → Prop} {o : Option Addr} {vs : List Value} {w w' : World} (h : Ls Z o vs w) (hb : Zs Z w w') : Ls Z o vs w' := fun j u hu => by
 obtain ⟨a, ha, hB, hc⟩ := h j u hu
 exact ⟨a, ha, hB, (hb.cell hB j).trans hc⟩
theorem Ls.mono {Z Z' : Nat → Prop} {o : Option Addr} {vs : List Value} {w : World} (h : Ls Z o vs w) (hB : ∀ k, k < w.heap.size → Z k → Z' k) : Ls Z' o vs w := fun j u hu => by
 obtain ⟨a, ha, hb, hc⟩ := h j u hu
 exact ⟨a, ha, hB _ (by have := World.block_lt_of_cell? _ _ hc; rwa [block_add] at this) hb, hc⟩
theorem Ls.nil (Z : Nat → Prop) (o : Option Addr) (w : World) : Ls Z o [] w := fun j u hu => by simp at hu
abbrev lim (d : List Nat) : List Value := d.map fun (x : Nat) => Value.int .u32 (x : Int)
abbrev bts (b : List Nat) : List Value := b.map fun (x : Nat) => Value.int .u8 (x : Int)
theorem Ls.lies {Z : Nat → Prop} {o : Option Addr} {d : List Nat} {w : World} (h : Ls Z o (lim d) w) : Lies o d w := fun j x hx => by
 obtain ⟨a, ha, _, hc⟩ := h j (.int .u32 (x : Int)) (by simp [lim, hx])
 exact ⟨a, ha, hc⟩
def LsB (Z : Nat → Prop) (o : Option Addr) (b : List Nat) (w : World) : Prop := Ls Z o (bts b) w ∧ Lm 256 b
theorem LsB.zs {Z : Nat → Prop} {o : Option Addr} {b : List Nat} {w w' : World} (h : LsB Z o b w) (hb : Zs Z w w') : LsB Z o b w' := ⟨h.1.zs hb, h.2⟩
theorem LsB.mono {Z Z' : Nat → Prop} {o : Option Addr} {b : List Nat} {w : World} (h : LsB Z o b w) (hB : ∀ k, k < w.heap.size → Z k → Z' k) : LsB Z' o b w := ⟨h.1.mono hB, h.2⟩
theorem LsB.nil (Z : Nat → Prop) (o : Option Addr) (w : World) : LsB Z o [] w := ⟨Ls.nil _ _ _, Lm.nil _⟩
def At7 (a : Addr) (v : Value) (w : World) : Prop := ∃ a0 a1 a2 a3 a4 a5 a6, v = .agg #[a0, a1, a2, a3, a4, a5, a6] ∧ w.cell? a = some a0 ∧ w.cell? (a.add 1) = some a1 ∧ w.cell? (a.add 2) = some a2 ∧ w.cell? (a.add 3) = some a3 ∧ w.cell? (a.add 4) = some a4 ∧ w.cell? (a.add 5) = some a5 ∧ w.cell? (a.add 6) = some a6
theorem At7.lt {a : Addr} {v : Value} {w : World} (h : At7 a v w) : a.block < w.heap.size := by
 obtain ⟨a0, a1, a2, a3, a4, a5, a6, rfl, h0, _⟩ := h
 exact World.block_lt_of_cell? _ _ h0
theorem At7.zs {Z : Nat → Prop} {a : Addr} {v : Value} {w w' : World} (h : At7 a v w) (hB : Z a.block) (hb : Zs Z w w') : At7 a v w' := by
 obtain ⟨a0, a1, a2, a3, a4, a5, a6, rfl, h0, h1, h2, h3, h4, h5, h6⟩ := h
 have q : ∀ n, w'.cell? (a.add n) = w.cell? (a.add n) := fun n => hb.cell hB n
 have q0 := q 0
 rw [add_zero] at q0
 exact ⟨a0, a1, a2, a3, a4, a5, a6, rfl, q0.trans h0, (q 1).trans h1, (q 2).trans h2, (q 3).trans h3, (q 4).trans h4, (q 5).trans h5, (q 6).trans h6⟩
mutual
def TV (Z : Nat → Prop) (w : World) : Tm → Value → Prop
 | .mk k neg d nm n l b, v => ∃ od cd ol cl ob cb, v = tmV k neg (.slice od d.length cd) nm n (.slice ol l.length cl) (.slice ob b.length cb) ∧ Ls Z od (lim d) w ∧ d.length ≤ cd ∧ Lm 4294967296 d ∧ LsB Z ob b w ∧ b.length ≤ cb ∧ l.length ≤ cl ∧ TR Z w l ol
def TR (Z : Nat → Prop) (w : World) : List Tm → Option Addr → Prop
 | [], _ => True
 | t :: l, o => ∃ a v, o = some a ∧ Z a.block ∧ At7 a v w ∧ TV Z w t v ∧ TR Z w l (some (a.add 7))
end
mutual
theorem TV.zs {Z : Nat → Prop} {w w' : World} (hb : Zs Z w w') : ∀ (t : Tm) (v : Value), TV Z w t v → TV Z w' t v
 | .mk k neg d nm n l b, v, h => by
   unfold TV at h ⊢
   obtain ⟨od, cd, ol, cl, ob, cb, hv, h1, h2, h3, h4, h5, h6, h7⟩ := h
   exact ⟨od, cd, ol, cl, ob, cb, hv, h1.zs hb, h2, h3, h4.zs hb, h5, h6, TR.zs hb l ol h7⟩
theorem TR.zs {Z : Nat → Prop} {w w' : World} (hb : Zs Z w w') : ∀ (l : List Tm) (o : Option Addr), TR Z w l o → TR Z w' l o
 | [], _, _ => by unfold TR; trivial
 | t :: l, o, h => by
   unfold TR at h ⊢
   obtain ⟨a, v, ho, hB, h1, h2, h3⟩ := h
   exact ⟨a, v, ho, hB, h1.zs hB hb, TV.zs hb t v h2, TR.zs hb l _ h3⟩
end
mutual
theorem TV.mono {Z Z' : Nat → Prop} {w : World} (hb : ∀ k, k < w.heap.size → Z k → Z' k) : ∀ (t : Tm) (v : Value), TV Z w t v → TV Z' w t v
 | .mk k neg d nm n l b, v, h => by
   unfold TV at h ⊢
   obtain ⟨od, cd, ol, cl, ob, cb, hv, h1, h2, h3, h4, h5, h6, h7⟩ := h
   exact ⟨od, cd, ol, cl, ob, cb, hv, h1.mono hb, h2, h3, h4.mono hb, h5, h6, TR.mono hb l ol h7⟩
theorem TR.mono {Z Z' : Nat → Prop} {w : World} (hb : ∀ k, k < w.heap.size → Z k → Z' k) : ∀ (l : List Tm) (o : Option Addr), TR Z w l o → TR Z' w l o
 | [], _, _ => by unfold TR; trivial
 | t :: l, o, h => by
   unfold TR at h ⊢
   obtain ⟨a, v, ho, hB, h1, h2, h3⟩ := h
   exact ⟨a, v, ho, hb _ h1.lt hB, h1, TV.mono hb t v h2, TR.mono hb l _ h3⟩
end
def Tm.kind : Tm → Int | .mk k _ _ _ _ _ _ => k
def Tm.kids : Tm → List Tm | .mk k _ _ _ _ l _ => if k = 4 ∨ k = 6 then l else []
mutual
def parts : Tm → List Tm
 | .mk k neg d nm n l b => .mk k neg d nm n l b :: (if k = 4 ∨ k = 6 then partsL l else [])
def partsL : List Tm → List Tm
 | [] => []
 | t :: l => parts t ++ partsL l
end
mutual
def dep : Tm → Nat
 | .mk k _ _ _ _ l _ => if k = 4 ∨ k = 6 then depL l + 1 else 0
def depL : List Tm → Nat
 | [] => 0
 | t :: l => max (dep t) (depL l)
end
theorem parts_eq (t : Tm) : parts t = t :: partsL t.kids := by
 cases t with | mk k neg d nm n l b =>
 unfold parts Tm.kids
 split <;> simp [partsL, *]
theorem dep_kids (t : Tm) (h : t.kids ≠ []) : depL t.kids + 1 = dep t := by
 cases t with | mk k neg d nm n l b =>
 unfold dep
 unfold Tm.kids at h ⊢
 by_cases hk : k = 4 ∨ k = 6
 · simp [hk]
 · simp [hk] at h
theorem TR.at {Z : Nat → Prop} {w : World} : ∀ (l : List Tm) (a : Addr) (i : Nat) (t : Tm), TR Z w l (some a) → l[i]? = some t → ∃ v, Z a.block ∧ At7 (a.add (7 * i)) v w ∧ TV Z w t v
 | [], _, _, _, _, hi => by simp at hi
 | t :: l, a, 0, t', h, hi => by
   simp at hi; subst hi
   unfold TR at h
   obtain ⟨a', v, ho, hB, h1, h2, h3⟩ := h
   injection ho with ho; subst ho
   exact ⟨v, hB, by simpa [add_zero] using h1, h2⟩
 | t :: l, a, i + 1, t', h, hi => by
   unfold TR at h
   obtain ⟨a', v, ho, hB, h1, h2, h3⟩ := h
   injection ho with ho; subst ho
   simp at hi
   obtain ⟨v', hB', h4, h5⟩ := TR.at l _ i t' h3 hi
   refine ⟨v', hB, ?_, h5⟩
   rw [add_add] at h4
   rw [show 7 * (i + 1) = 7 + 7 * i by omega]; exact h4
end Go.Proofs.YtlojfmlaookpmaaGreatDoor
