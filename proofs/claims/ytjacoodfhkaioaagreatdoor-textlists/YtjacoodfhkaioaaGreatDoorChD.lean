/- Texts of mine, one behind the other: BigRMinus, BigOpen, BigOrd, BigRAdd, BigRSub. -/
import Derived.Test.YtjacoodfhkaioaaGreatDoorChC
import Derived.Lib.SmallJoins
import Derived.ChangeSlices
namespace Go.Proofs.YtjacoodfhkaioaaGreatDoor
open Go.ChangeShapes Go.WideShapes Go.ChangeAt Go.RowKit
set_option linter.unusedSimpArgs false
set_option linter.unusedVariables false
set_option maxRecDepth 2000
theorem dif_step2 (x y c : Nat) (hx : x < 4294967296) (hy : y < 4294967296) (hc : c ≤ 1) : ∃ D1 D r q : Nat, IntKind.u64.wrap ((x : Int) - (y : Int)) = (D1 : Int) ∧ IntKind.u64.wrap ((D1 : Int) - (c : Int)) = (D : Int) ∧ IntKind.u32.wrap (D : Int) = (r : Int) ∧ (D : Int) / 9223372036854775808 = (q : Int) ∧ r + (c + y) = x + 4294967296 * q ∧ q ≤ 1 ∧ r < 4294967296 := by
  by_cases h : y ≤ x
  · by_cases h2 : y + c ≤ x
    · exact ⟨x - y, x - y - c, x - y - c, 0, by rw [IntKind.wrap_u64]; omega, by rw [IntKind.wrap_u64]; omega, by rw [IntKind.wrap_u32]; omega, by omega, by omega, by omega, by omega⟩
    · exact ⟨x - y, 18446744073709551615, 4294967295, 1, by rw [IntKind.wrap_u64]; omega, by rw [IntKind.wrap_u64]; omega, by rw [IntKind.wrap_u32]; omega, by omega, by omega, by omega, by omega⟩
  · exact ⟨18446744073709551616 + x - y, 18446744073709551616 + x - y - c, 4294967296 + x - y - c, 1, by rw [IntKind.wrap_u64]; omega, by rw [IntKind.wrap_u64]; omega, by rw [IntKind.wrap_u32]; omega, by omega, by omega, by omega, by omega⟩
theorem minus_step {L la lb : List Nat} {cn x y r q : Nat} (hH : gval 4294967296 L + gval 4294967296 (lb.take L.length) = gval 4294967296 (la.take L.length) + 4294967296 ^ L.length * cn) (hx : la[L.length]? = some x) (hy : lb.getD L.length 0 = y) (hr : r + (cn + y) = x + 4294967296 * q) :
    gval 4294967296 (L ++ [r]) + gval 4294967296 (lb.take (L.length + 1)) = gval 4294967296 (la.take (L.length + 1)) + 4294967296 ^ (L.length + 1) * q := by
  rw [gval_append, gval_take_getD, gval_take_succ _ hx, pow_step, hy]
  have := dif_sum (P := 4294967296 ^ L.length) (b := cn) (t := cn + y) (y := y) rfl hr hH
  simpa [gval] using this
set_option maxHeartbeats 1000000 in
theorem minus_w (oa ob : Option Addr) (ca cb : Nat) (la lb : List Nat) (w : World) (ma : Lm 4294967296 la) (mb : Lm 4294967296 lb) (za : la.length ≤ 1000000) (zb : lb.length ≤ la.length) (hle : gval 4294967296 lb ≤ gval 4294967296 la) (ha : Lies oa la w) (hb : Lies ob lb w) :
    Calls Tryz.prog 124 #[.slice oa la.length ca, .slice ob lb.length cb] w fun e w' => ∃ v L, e = .returned v ∧ Fr w.heap.size v L w' ∧ Lm 4294967296 L ∧ gval 4294967296 L = gval 4294967296 la - gval 4294967296 lb ∧ L.length = la.length ∧ Below w.heap.size w w' := by
  obtain ⟨i0, hi, hy0, hy1, hy2⟩ := info_parts info32u
  have hle' := hid hle
  clear hle
  go_enter Tryz.func124, Tryz.ntmps124
  go_wp2
  go_loopw [5, 6, 7] (fun ov cv iv wr => ∃ (L : List Nat) (cn : Nat), cv = .int .u64 (cn : Int) ∧ iv = .int .i64 (L.length : Int) ∧ Fr w.heap.size ov L wr ∧ L.length ≤ la.length ∧ cn ≤ 1 ∧ Lm 4294967296 L ∧ Below w.heap.size w wr ∧ Hid (gval 4294967296 L + gval 4294967296 (lb.take L.length) = gval 4294967296 (la.take L.length) + 4294967296 ^ L.length * cn)) (fun _ _ iv _ => la.length - (intOf iv).toNat)
  case atStart => exact ⟨[], 0, rfl, rfl, Fr.nil _ _, by simp, by omega, Lm.nil _, Below.refl _ _, hid (by simp [gval])⟩
  case round =>
    obtain ⟨L, cn, rfl, rfl, hF, hk, hcn, hLm, hbw, hH⟩ := hrel
    by_cases h1 : L.length < la.length
    · have h1z : (L.length : Int) < (la.length : Int) := by omega
      obtain ⟨x, hx⟩ : ∃ x, la[L.length]? = some x := ⟨la[L.length], by simp [h1]⟩
      obtain ⟨y, hy⟩ : ∃ y, lb.getD L.length 0 = y := ⟨_, rfl⟩
      have hxm := ma.at hx
      have hym : y < 4294967296 := by rw [← hy]; exact mb.getD (by omega) _
      obtain ⟨D1, D, r, q, w1, w2, w3, w4, hr, hq, hrm⟩ := dif_step2 x y cn hxm hym hcn
      have hstep := hid (minus_step hH.out hx hy hr)
      have wx : IntKind.u64.wrap (x : Int) = (x : Int) := by rw [IntKind.wrap_u64]; omega
      obtain ⟨a, rfl, cx⟩ := (ha.below hbw) _ x hx
      have hlim : ∀ w', Below w.heap.size w w' → Calls Tryz.prog 146 #[.slice ob lb.length cb, .int .i64 (L.length : Int)] w' fun e w'' => e = .returned (.int .u64 (y : Int)) ∧ w'' = w' := fun w' hb' => by
        have := limb_w ob cb lb L.length w' mb (hb.below hb')
        rw [hy] at this
        exact this
      have hlim' := hid hlim
      clear hr hx hy hlim
      go_wp2
      go_quiet ((go_at_call 146; exact Calls.quiet_of_same (hlim'.out _ (by first | exact hbw | exact below_drewNv hbw _))))
      have hbq := below_drewNv hbw nq
      have hFq : Fr w.heap.size _ L (wr.drewN nq) := hF.below (below_drewNv (Below.refl _ _) nq)
      clear cx hF hbw
      generalize wr.drewN nq = wq at *
      have hsz := hbq.size
      go_wp2_with (at_builtin; refine wpList_append_own _ rfl _ _ 23 rfl w.heap.size 145 i0 (.int .u32 0) 1 4 Tryz.underlying23 hi hy0 hy1 hy2 rfl (by decide) _ _ _ rfl (World.ownsRow.alloc hFq _) ⟨wq.heap.size, 0, none⟩ 1 1 [.int .u32 (r : Int)] rfl rfl ?c1 ?c2 ?c3 ?c4 ?c5 ?_)
      first
        | (case c1 =>
            intro j u hj
            match j, hj with
            | 0, hj => simp at hj; subst hj; simp [Addr.add]
            | j + 1, hj => simp at hj)
        | skip
      case c2 => first | rfl | (intro u hu; simp at hu; subst hu; rfl)
      case c3 => unfold maxLen; omega
      case c4 => omega
      case c5 => first | omega | (simp; omega)
      intro v' w2 hown' hgrow _
      go_wp2
      go_roundw
      case rel =>
        refine ⟨L ++ [r], q, rfl, by simp, Fr.push hown', by simp; omega, hq, hLm.append (Lm.cons hrm (Lm.nil _)), (hbq.alloc hsz _).grown hgrow (by simp; omega) hFq.block, hid ?_⟩
        rw [List.length_append]
        exact hstep.out
      case measure => simp [intOf]; omega
    · have h1z : ¬ (L.length : Int) < (la.length : Int) := by omega
      go_wp2
      go_ret
      have hle := hle'.out
      have hh := hH.out
      have hke : L.length = la.length := by omega
      rw [hke, List.take_of_length_le (by omega), List.take_of_length_le (by omega)] at hh
      have hlt := gval_lt hLm
      rw [hke] at hlt
      have hc0 : cn = 0 := by
        rcases Nat.lt_or_ge 0 cn with h | h
        · have : cn = 1 := by omega
          subst this; omega
        · omega
      subst hc0
      exact ⟨_, rfl, L, hF, hLm, by omega, hke, hbw⟩
end Go.Proofs.YtjacoodfhkaioaaGreatDoor
namespace Go.Proofs.YtjacoodfhkaioaaGreatDoor
open Go.ChangeShapes Go.WideShapes Go.ChangeAt Go.ChangeMaps Go.RowKit
set_option linter.unusedSimpArgs false
set_option linter.unusedVariables false
set_option maxRecDepth 2000
theorem one34 : Tryz.prog.cellsOf 145 = 1 := by kernel_rfl
theorem two34 : Tryz.prog.cellsOf 84 = 2 := by kernel_rfl
theorem open_num {H : Type} {enc : TypeId × Value → H} {base : Nat} {w : World} {v : Value} {d : DataW H} {p : List MemPlace} (o0 : Value.okWide Tryz.prog w Reach.any base 84 v) (h0 : DataW.Trod enc Tryz.prog w 0 (fun _ => true) true 84 v d p) :
    ∃ (neg : Bool) (o : Option Addr) (l : List Nat) (c : Nat), v = .agg #[.bool neg, .slice o l.length c] ∧ Lies o l w ∧ l.length ≤ c ∧ Lm 4294967296 l ∧ l.length ≤ maxLen := by
  obtain ⟨v0, v1, y0, y1, n, rfl, rfl, rfl, t0, t1⟩ := Go.Joins.open_agg2 Tryz.underlying84 (by kernel_rfl) two34 o0 h0
  obtain ⟨b, e0, _⟩ := DataW.trod_bool Tryz.underlying4 t0
  simp only [List.cons.injEq, and_true] at e0
  subst e0
  rcases open_ints Tryz.underlying23 Tryz.underlying145 one34 t1 with ⟨e1, _⟩ | ⟨a, len, cap, zs, e1, _, hlc, hcm, hzl, _, hcell, hwf⟩
  · simp only [List.cons.injEq, and_true] at e1
    subst e1
    exact ⟨b, none, [], 0, rfl, fun j x hx => by simp at hx, by simp, Lm.nil _, by simp [maxLen]⟩
  · simp only [List.cons.injEq, and_true] at e1
    subst e1
    simp only [if_true] at hzl
    have hbd : ∀ x ∈ zs, 0 ≤ x ∧ x < 4294967296 := fun x hx => by
      have := hwf x hx
      simp [Lit.wf, IntKind.min, IntKind.max, IntKind.bits, IntKind.signed] at this
      omega
    have hll : ((zs.map Int.toNat).take len).length = len := by rw [List.length_take, List.length_map]; omega
    refine ⟨b, some a, (zs.map Int.toNat).take len, cap, by rw [hll], fun j x hx => ⟨a, rfl, ?_⟩, by omega, ?_, by omega⟩
    · rw [List.getElem?_take] at hx
      split at hx
      · rename_i hj
        rw [List.getElem?_map] at hx
        cases hz : zs[j]? with
        | none => rw [hz] at hx; simp at hx
        | some z =>
          rw [hz] at hx
          simp only [Option.map_some, Option.some.injEq] at hx
          have hjl : j < zs.length := (List.getElem?_eq_some_iff.1 hz).1
          have hzz := hbd z (List.mem_of_getElem? hz)
          rw [hcell j hjl]
          have : zs.getD j 0 = z := by simp [List.getD, hz]
          rw [this, ← hx]
          congr 2; omega
      · simp at hx
    · intro x hx
      have hx' := List.mem_of_mem_take hx
      obtain ⟨z, hz, rfl⟩ := List.mem_map.1 hx'
      have := hbd z hz
      omega
theorem IsN.of_open {w : World} {neg : Bool} {o : Option Addr} {l : List Nat} {c K : Nat} (h1 : Lies o l w) (h2 : l.length ≤ c) (h3 : Lm 4294967296 l) (h4 : l.length ≤ K) : IsN (.agg #[.bool neg, .slice o l.length c]) (sv neg (gval 4294967296 l)) K w := ⟨neg, o, l, c, rfl, h1, h2, h3, rfl, h4⟩
end Go.Proofs.YtjacoodfhkaioaaGreatDoor
namespace Go.Proofs.YtjacoodfhkaioaaGreatDoor
open Go.ChangeShapes Go.WideShapes Go.ChangeAt Go.ChangeMaps Go.RowKit
set_option linter.unusedSimpArgs false
set_option linter.unusedVariables false
set_option maxRecDepth 2000
theorem wpAnyH_inv {σ : Type} {P : Program} {md : Region.Mode} {ops : Array Oper} {Q : Exit → Act → World → Prop} {S : World → Prop} {m : Nat} (L : σ → Array Bool) (A : σ → Act) (R : σ → World → Prop) (n : σ → Nat)
    (hne : ∀ s w, R s w → n s ≠ 0 → Region.ready md ops (L s) ≠ [])
    (hstep : ∀ s w, R s w → n s ≠ 0 → ∀ i ∈ Region.ready md ops (L s), wpOp P ops Q i (fun a' w' => ∃ s', n s = n s' + 1 ∧ L s' = (L s).setIfInBounds i true ∧ a' = A s' ∧ R s' w' ∧ S w') (A s) w)
    (hdone : ∀ s w, R s w → n s = 0 → wpAnyH P md ops Q S m (L s) (A s) w) :
    ∀ (k : Nat) (s : σ) (w : World) (listed : Array Bool) (a : Act), n s = k → listed = L s → a = A s → R s w → wpAnyH P md ops Q S (m + k) listed a w := by
  intro k
  induction k with
  | zero =>
    intro s w listed a hn hl ha hR
    subst hl ha
    exact hdone s w hR hn
  | succ k ih =>
    intro s w listed a hn hl ha hR
    subst hl ha
    refine ⟨fun h0 => absurd h0 (hne s w hR (by omega)), fun i hi => ?_⟩
    refine wpOp_mono (fun a' w' h => ?_) (hstep s w hR (by omega) i hi)
    obtain ⟨s', h1, h2, h3, h4, h5⟩ := h
    exact ⟨h5, ih s' w' _ _ (by omega) h2.symm h3 h4⟩
theorem below_and' {N : Nat} {w w' w'' : World} (h : Below N w w') (hN : N ≤ w'.heap.size) (h' : Below w'.heap.size w' w'') : Below N w w'' := h.trans (below_le h' hN)
/-- a variable of two cells, new, at a place of the call's own -/
def NewBox (N : Nat) (x u v : Value) (w : World) : Prop := ∃ g, x = .pointer (some ⟨g, 0, none⟩) ∧ N ≤ g ∧ g < w.heap.size ∧ Box g u v w
theorem NewBox.below {N : Nat} {x u v : Value} {w w' : World} (h : NewBox N x u v w) (hb : Below w.heap.size w w') : NewBox N x u v w' := by
  obtain ⟨g, rfl, h1, h2, h3⟩ := h
  exact ⟨g, rfl, h1, Nat.lt_of_lt_of_le h2 hb.size, h3.below hb h2⟩
theorem NewBox.new {N : Nat} (u v : Value) (w : World) (t : TypeId) (hN : N ≤ w.heap.size) : NewBox N (.pointer (some ⟨w.heap.size, 0, none⟩)) u v (w.alloc (.cells #[u, v] t)) :=
  ⟨w.heap.size, rfl, hN, by simp, Box.new w u v t⟩
theorem NewBox.ne {N : Nat} {x u v : Value} {w : World} (h : NewBox N x u v w) : x ≠ .pointer (some ⟨w.heap.size, 0, none⟩) := by
  obtain ⟨g, rfl, _, h2, _⟩ := h
  intro e
  simp only [Value.pointer.injEq, Option.some.injEq, Addr.mk.injEq, and_true] at e
  omega
/-- three calls in a row beside three variables that are made at any time: what has come up -/
structure St3 where
  l1 : Bool
  l3 : Bool
  l5 : Bool
  l6 : Bool
  l7 : Bool
  l8 : Bool
  x1 : Value
  x3 : Value
  x5 : Value
  x6 : Value
  x7 : Value
  x8 : Value
def St3.L (s : St3) : Array Bool := #[true, s.l1, true, s.l3, true, s.l5, s.l6, s.l7, s.l8, false, false, false]
def St3.n (s : St3) : Nat := (!s.l1).toNat + (!s.l3).toNat + (!s.l5).toNat + (!s.l6).toNat + (!s.l7).toNat + (!s.l8).toNat
structure R3 (N : Nat) (W : World) (va vb vc z0 z1 : Value) (s : St3) (w : World) : Prop where
  bel : Below N W w
  size : N ≤ w.heap.size
  o3 : s.l3 = true → s.l1 = true
  o5 : s.l5 = true → s.l3 = true
  h1 : s.l1 = true → s.x1 = va
  h3 : s.l3 = true → s.x3 = vb
  h5 : s.l5 = true → s.x5 = vc
  h6 : s.l6 = true → NewBox N s.x6 z0 z1 w
  h7 : s.l7 = true → NewBox N s.x7 z0 z1 w
  h8 : s.l8 = true → NewBox N s.x8 z0 z1 w
  h67 : s.l6 = true → s.l7 = true → s.x6 ≠ s.x7
  h68 : s.l6 = true → s.l8 = true → s.x6 ≠ s.x8
  h78 : s.l7 = true → s.l8 = true → s.x7 ≠ s.x8
theorem R3.on {N : Nat} {W : World} {va vb vc z0 z1 : Value} {s : St3} {w w' : World} (h : R3 N W va vb vc z0 z1 s w) (hb : Below w.heap.size w w') : R3 N W va vb vc z0 z1 s w' :=
  ⟨below_and' h.bel h.size hb, Nat.le_trans h.size hb.size, h.o3, h.o5, h.h1, h.h3, h.h5, fun e => (h.h6 e).below hb, fun e => (h.h7 e).below hb, fun e => (h.h8 e).below hb, h.h67, h.h68, h.h78⟩
theorem R3.c1 {N : Nat} {W : World} {va vb vc z0 z1 : Value} {s : St3} {w w' : World} (h : R3 N W va vb vc z0 z1 s w) (hb : Below w.heap.size w w') : R3 N W va vb vc z0 z1 { s with l1 := true, x1 := va } w' := by
  have k := h.on hb
  exact ⟨k.bel, k.size, fun _ => rfl, k.o5, fun _ => rfl, k.h3, k.h5, k.h6, k.h7, k.h8, k.h67, k.h68, k.h78⟩
theorem R3.c3 {N : Nat} {W : World} {va vb vc z0 z1 : Value} {s : St3} {w w' : World} (h : R3 N W va vb vc z0 z1 s w) (he : s.l1 = true) (hb : Below w.heap.size w w') : R3 N W va vb vc z0 z1 { s with l3 := true, x3 := vb } w' := by
  have k := h.on hb
  exact ⟨k.bel, k.size, fun _ => he, fun _ => rfl, k.h1, fun _ => rfl, k.h5, k.h6, k.h7, k.h8, k.h67, k.h68, k.h78⟩
theorem R3.c5 {N : Nat} {W : World} {va vb vc z0 z1 : Value} {s : St3} {w w' : World} (h : R3 N W va vb vc z0 z1 s w) (he : s.l3 = true) (hb : Below w.heap.size w w') : R3 N W va vb vc z0 z1 { s with l5 := true, x5 := vc } w' := by
  have k := h.on hb
  exact ⟨k.bel, k.size, k.o3, fun _ => he, k.h1, k.h3, fun _ => rfl, k.h6, k.h7, k.h8, k.h67, k.h68, k.h78⟩
theorem R3.n6 {N : Nat} {W : World} {va vb vc z0 z1 : Value} {s : St3} {w : World} (t : TypeId) (h : R3 N W va vb vc z0 z1 s w) : R3 N W va vb vc z0 z1 { s with l6 := true, x6 := .pointer (some ⟨w.heap.size, 0, none⟩) } (w.alloc (.cells #[z0, z1] t)) := by
  have k := h.on ((Below.refl w.heap.size w).alloc (Nat.le_refl _) (.cells #[z0, z1] t))
  exact ⟨k.bel, k.size, k.o3, k.o5, k.h1, k.h3, k.h5, fun _ => NewBox.new z0 z1 w t h.size, k.h7, k.h8, fun _ e => (h.h7 e).ne.symm, fun _ e => (h.h8 e).ne.symm, k.h78⟩
theorem R3.n7 {N : Nat} {W : World} {va vb vc z0 z1 : Value} {s : St3} {w : World} (t : TypeId) (h : R3 N W va vb vc z0 z1 s w) : R3 N W va vb vc z0 z1 { s with l7 := true, x7 := .pointer (some ⟨w.heap.size, 0, none⟩) } (w.alloc (.cells #[z0, z1] t)) := by
  have k := h.on ((Below.refl w.heap.size w).alloc (Nat.le_refl _) (.cells #[z0, z1] t))
  exact ⟨k.bel, k.size, k.o3, k.o5, k.h1, k.h3, k.h5, k.h6, fun _ => NewBox.new z0 z1 w t h.size, k.h8, fun e _ => (h.h6 e).ne, k.h68, fun _ e => (h.h8 e).ne.symm⟩
theorem R3.n8 {N : Nat} {W : World} {va vb vc z0 z1 : Value} {s : St3} {w : World} (t : TypeId) (h : R3 N W va vb vc z0 z1 s w) : R3 N W va vb vc z0 z1 { s with l8 := true, x8 := .pointer (some ⟨w.heap.size, 0, none⟩) } (w.alloc (.cells #[z0, z1] t)) := by
  have k := h.on ((Below.refl w.heap.size w).alloc (Nat.le_refl _) (.cells #[z0, z1] t))
  exact ⟨k.bel, k.size, k.o3, k.o5, k.h1, k.h3, k.h5, k.h6, k.h7, fun _ => NewBox.new z0 z1 w t h.size, k.h67, fun e _ => (h.h6 e).ne, fun e _ => (h.h7 e).ne⟩
def bAll (f : Bool → Bool) : Bool := f false && f true
theorem bAll_spec {f : Bool → Bool} (h : bAll f = true) (b : Bool) : f b = true := by
  unfold bAll at h
  rw [Bool.and_eq_true] at h
  cases b
  · exact h.1
  · exact h.2
theorem wpAnyH_inv3 {P : Program} {md : Region.Mode} {ops : Array Oper} {Q : Exit → Act → World → Prop} {S : World → Prop} (A : St3 → Act) (R : St3 → World → Prop)
    (hmem0 : (bAll fun l1 => bAll fun l3 => bAll fun l5 => bAll fun l6 => bAll fun l7 => bAll fun l8 => (l1 && l3 && l5 && l6 && l7 && l8) || (l3 && !l1) || (l5 && !l3) || (!(Region.ready md ops #[true, l1, true, l3, true, l5, l6, l7, l8, false, false, false]).isEmpty && (Region.ready md ops #[true, l1, true, l3, true, l5, l6, l7, l8, false, false, false]).all fun i => (i == 1 && !l1) || (i == 3 && !l3 && l1) || (i == 5 && !l5 && l3) || (i == 6 && !l6) || (i == 7 && !l7) || (i == 8 && !l8))) = true)
    (hord : ∀ s w, R s w → (s.l3 = true → s.l1 = true) ∧ (s.l5 = true → s.l3 = true))
    (h1 : ∀ s w, R s w → wpOp P ops Q 1 (fun a' w' => ∃ x, a' = A { s with l1 := true, x1 := x } ∧ R { s with l1 := true, x1 := x } w' ∧ S w') (A s) w)
    (h3 : ∀ s w, R s w → s.l1 = true → wpOp P ops Q 3 (fun a' w' => ∃ x, a' = A { s with l3 := true, x3 := x } ∧ R { s with l3 := true, x3 := x } w' ∧ S w') (A s) w)
    (h5 : ∀ s w, R s w → s.l3 = true → wpOp P ops Q 5 (fun a' w' => ∃ x, a' = A { s with l5 := true, x5 := x } ∧ R { s with l5 := true, x5 := x } w' ∧ S w') (A s) w)
    (h6 : ∀ s w, R s w → wpOp P ops Q 6 (fun a' w' => ∃ x, a' = A { s with l6 := true, x6 := x } ∧ R { s with l6 := true, x6 := x } w' ∧ S w') (A s) w)
    (h7 : ∀ s w, R s w → wpOp P ops Q 7 (fun a' w' => ∃ x, a' = A { s with l7 := true, x7 := x } ∧ R { s with l7 := true, x7 := x } w' ∧ S w') (A s) w)
    (h8 : ∀ s w, R s w → wpOp P ops Q 8 (fun a' w' => ∃ x, a' = A { s with l8 := true, x8 := x } ∧ R { s with l8 := true, x8 := x } w' ∧ S w') (A s) w)
    (hdone : ∀ (x1 x3 x5 x6 x7 x8 : Value) w, R ⟨true, true, true, true, true, true, x1, x3, x5, x6, x7, x8⟩ w → wpAnyH P md ops Q S 3 #[true, true, true, true, true, true, true, true, true, false, false, false] (A ⟨true, true, true, true, true, true, x1, x3, x5, x6, x7, x8⟩) w)
    (w : World) (a : Act) (x1 x3 x5 x6 x7 x8 : Value) (ha : a = A ⟨false, false, false, false, false, false, x1, x3, x5, x6, x7, x8⟩) (hR : R ⟨false, false, false, false, false, false, x1, x3, x5, x6, x7, x8⟩ w) :
    wpAnyH P md ops Q S 9 #[true, false, true, false, true, false, false, false, false, false, false, false] a w := by
  have hmem : ∀ l1 l3 l5 l6 l7 l8 : Bool, (l1 && l3 && l5 && l6 && l7 && l8) = false → (l3 = true → l1 = true) → (l5 = true → l3 = true) → Region.ready md ops #[true, l1, true, l3, true, l5, l6, l7, l8, false, false, false] ≠ [] ∧ ∀ i ∈ Region.ready md ops #[true, l1, true, l3, true, l5, l6, l7, l8, false, false, false], (i = 1 ∧ l1 = false) ∨ (i = 3 ∧ l3 = false ∧ l1 = true) ∨ (i = 5 ∧ l5 = false ∧ l3 = true) ∨ (i = 6 ∧ l6 = false) ∨ (i = 7 ∧ l7 = false) ∨ (i = 8 ∧ l8 = false) := by
    intro l1 l3 l5 l6 l7 l8 he e1 e2
    have h := bAll_spec (bAll_spec (bAll_spec (bAll_spec (bAll_spec (bAll_spec hmem0 l1) l3) l5) l6) l7) l8
    have e3 : (l3 && !l1) = false := by cases l3 <;> simp_all
    have e4 : (l5 && !l3) = false := by cases l5 <;> simp_all
    rw [he, e3, e4, Bool.false_or, Bool.false_or, Bool.false_or, Bool.and_eq_true] at h
    refine ⟨fun e => ?_, fun i hi => ?_⟩
    · rw [e] at h; simp at h
    · have h2 := List.all_eq_true.1 h.2 i hi
      simpa [or_assoc, and_assoc] using h2
  refine wpAnyH_inv (m := 3) St3.L A R St3.n ?_ ?_ ?_ 6 ⟨false, false, false, false, false, false, x1, x3, x5, x6, x7, x8⟩ w _ a rfl rfl ha hR
  · rintro ⟨l1, l3, l5, l6, l7, l8, y1, y3, y5, y6, y7, y8⟩ w hR hn
    refine (hmem l1 l3 l5 l6 l7 l8 ?_ (hord _ _ hR).1 (hord _ _ hR).2).1
    clear hR
    revert hn
    cases l1 <;> cases l3 <;> cases l5 <;> cases l6 <;> cases l7 <;> cases l8 <;> simp [St3.n]
  · intro s w hR hn i hi
    have hm := (hmem s.l1 s.l3 s.l5 s.l6 s.l7 s.l8 (by
      clear hR hi
      revert hn
      rcases s with ⟨l1, l3, l5, l6, l7, l8, y1, y3, y5, y6, y7, y8⟩
      cases l1 <;> cases l3 <;> cases l5 <;> cases l6 <;> cases l7 <;> cases l8 <;> simp [St3.n]) (hord _ _ hR).1 (hord _ _ hR).2).2 i hi
    rcases hm with ⟨rfl, e⟩ | ⟨rfl, e, ee⟩ | ⟨rfl, e, ee⟩ | ⟨rfl, e⟩ | ⟨rfl, e⟩ | ⟨rfl, e⟩
    · refine wpOp_mono (fun a' w' h => ?_) (h1 s w hR)
      obtain ⟨x, k1, k2, k3⟩ := h
      exact ⟨_, by simp [St3.n, e]; omega, rfl, k1, k2, k3⟩
    · refine wpOp_mono (fun a' w' h => ?_) (h3 s w hR ee)
      obtain ⟨x, k1, k2, k3⟩ := h
      exact ⟨_, by simp [St3.n, e]; omega, rfl, k1, k2, k3⟩
    · refine wpOp_mono (fun a' w' h => ?_) (h5 s w hR ee)
      obtain ⟨x, k1, k2, k3⟩ := h
      exact ⟨_, by simp [St3.n, e]; omega, rfl, k1, k2, k3⟩
    · refine wpOp_mono (fun a' w' h => ?_) (h6 s w hR)
      obtain ⟨x, k1, k2, k3⟩ := h
      exact ⟨_, by simp [St3.n, e]; omega, rfl, k1, k2, k3⟩
    · refine wpOp_mono (fun a' w' h => ?_) (h7 s w hR)
      obtain ⟨x, k1, k2, k3⟩ := h
      exact ⟨_, by simp [St3.n, e]; omega, rfl, k1, k2, k3⟩
    · refine wpOp_mono (fun a' w' h => ?_) (h8 s w hR)
      obtain ⟨x, k1, k2, k3⟩ := h
      exact ⟨_, by simp [St3.n, e], rfl, k1, k2, k3⟩
  · rintro ⟨l1, l3, l5, l6, l7, l8, y1, y3, y5, y6, y7, y8⟩ w hR hn
    have : l1 = true ∧ l3 = true ∧ l5 = true ∧ l6 = true ∧ l7 = true ∧ l8 = true := by
      revert hn
      cases l1 <;> cases l3 <;> cases l5 <;> cases l6 <;> cases l7 <;> cases l8 <;> simp [St3.n]
    obtain ⟨rfl, rfl, rfl, rfl, rfl, rfl⟩ := this
    exact hdone _ _ _ _ _ _ w hR
theorem wpAnyH_name {P : Program} {md : Region.Mode} {ops : Array Oper} {Q : Exit → Act → World → Prop} {S : World → Prop} {m : Nat} {listed : Array Bool} {a : Act} {w : World} (h : ∀ a0, a0 = a → wpAnyH P md ops Q S m listed a0 w) : wpAnyH P md ops Q S m listed a w := h a rfl
theorem wpAnyH_at {P : Program} {md : Region.Mode} {ops : Array Oper} {Q : Exit → Act → World → Prop} {S : World → Prop} {m m' : Nat} {listed listed' : Array Bool} {a : Act} {w : World} (hm : m = m') (hl : listed = listed') (h : wpAnyH P md ops Q S m' listed' a w) : wpAnyH P md ops Q S m listed a w := by
  subst hm hl; exact h
theorem IsC.shape {v : Value} {Z : Int} {K : Nat} {w : World} (h : IsC v Z K w) : ∃ b o n c, v = .agg #[.bool b, .slice o n c] := by
  obtain ⟨o, c, rfl, _⟩ := h
  exact ⟨_, _, _, _, rfl⟩
theorem IsC.parts {b : Bool} {o : Option Addr} {n c : Nat} {Z : Int} {K : Nat} {w : World} (h : IsC (.agg #[.bool b, .slice o n c]) Z K w) : b = decide (Z < 0) ∧ n = (glim 4294967296 Z.natAbs).length := by
  obtain ⟨o', c', e, _⟩ := h
  simp only [Value.agg.injEq, Array.mk.injEq, List.cons.injEq, Value.bool.injEq, Value.slice.injEq, and_true] at e
  exact ⟨e.1, e.2.2.1⟩
theorem newbox (w : World) (u v : Value) (t : TypeId) : Box w.heap.size u v (w.alloc (.cells #[u, v] t)) ∧ Below w.heap.size w (w.alloc (.cells #[u, v] t)) ∧ (w.alloc (.cells #[u, v] t)).heap.size = w.heap.size + 1 :=
  ⟨Box.new w u v t, (Below.refl _ _).alloc (Nat.le_refl _) _, by simp⟩
theorem Box.lt {g : Nat} {u v : Value} {w : World} (h : Box g u v w) : g < w.heap.size := World.block_lt_of_cell? _ _ h.1
theorem cmpZ_swap (x y : Int) : -cmpZ y x = cmpZ x y := by
  simp only [cmpZ]
  split <;> split <;> (try split) <;> omega
theorem natAbs_lt_of {b : Bool} {l : List Nat} {k : Nat} (hm : Lm 4294967296 l) (hl : l.length ≤ k) : (sv b (gval 4294967296 l)).natAbs < 4294967296 ^ k := by
  have h1 := gval_lt hm
  have h2 : (4294967296 : Nat) ^ l.length ≤ 4294967296 ^ k := Nat.pow_le_pow_right (by omega) hl
  have h3 : (sv b (gval 4294967296 l)).natAbs = gval 4294967296 l := by unfold sv; cases b <;> simp
  omega
theorem natAbs_add_lt {Y Z : Int} (hY : Y.natAbs < 4294967296 ^ 40) (hZ : Z.natAbs < 4294967296 ^ 40) : (Y + Z).natAbs < 4294967296 ^ 41 := by
  have h1 : (4294967296 : Nat) ^ 41 = 4294967296 ^ 40 * 4294967296 := Nat.pow_succ _ _
  rw [h1]
  generalize (4294967296 : Nat) ^ 40 = P at *
  have h2 := Int.natAbs_add_le Y Z
  omega
theorem cmpZ_bd (x y : Int) : -1 ≤ cmpZ x y ∧ cmpZ x y ≤ 1 := by
  simp only [cmpZ]
  split <;> (try split) <;> omega
theorem IsN.abs {b : Bool} {sl : Value} {Z : Int} {K : Nat} {w : World} (h : IsN (.agg #[.bool b, sl]) Z K w) : IsN (.agg #[.bool false, sl]) (Z.natAbs : Int) K w := by
  obtain ⟨neg, o, l, c, e, hL, hc, hm, hs, hk⟩ := h
  simp only [Value.agg.injEq, Array.mk.injEq, List.cons.injEq, Value.bool.injEq, and_true] at e
  obtain ⟨rfl, rfl⟩ := e
  refine ⟨false, o, l, c, rfl, hL, hc, hm, ?_, hk⟩
  subst hs
  unfold sv
  cases b <;> simp
theorem field25 (b : Bool) (o : Option Addr) (n c : Nat) (w : World) : (Instr.field 115 (.agg #[.bool b, .slice o n c]) 0).run Tryz.prog w = .ok (.bool b) w := by
  have ht := run_underlying (P := Tryz.prog) Tryz.underlying115
  have ht2 := run_underlying (P := Tryz.prog) Tryz.underlying4
  simp [Instr.field, ht, asAgg, part, isAgg, ht2, go_sem]
theorem tdiv_lt {X Y : Int} {k : Nat} (h : X.natAbs < 4294967296 ^ k) : (X.tdiv Y).natAbs < 4294967296 ^ k := Nat.lt_of_le_of_lt (Int.natAbs_tdiv_le_natAbs X Y) h
theorem div_back (X Y : Int) : X.tdiv Y * Y + X.tmod Y = X := by
  rw [Int.mul_comm]; exact Int.mul_tdiv_add_tmod X Y
theorem mod_small {X Y : Int} (h : Y ≠ 0) : cmpZ ((X.tmod Y).natAbs : Int) (Y.natAbs : Int) = -1 := by
  apply cmpZ_lt
  rw [Int.natAbs_tmod]
  have := Nat.mod_lt X.natAbs (show 0 < Y.natAbs by omega)
  omega
theorem mod_sign {X Y : Int} (h : X.tmod Y ≠ 0) : decide (X.tmod Y < 0) = decide (X < 0) := by
  by_cases hx : X < 0
  · have h1 : (-X).tmod Y = -(X.tmod Y) := Int.neg_tmod X Y
    have h2 := Int.tmod_nonneg (a := -X) Y (by omega)
    simp only [hx, decide_true, decide_eq_true_eq]
    omega
  · have h2 := Int.tmod_nonneg (a := X) Y (by omega)
    simp only [hx, decide_false, decide_eq_false_iff_not]
    omega
theorem glim_len0 {Z : Int} : ((glim 4294967296 Z.natAbs).length : Int) = 0 ↔ Z = 0 := by
  constructor
  · intro h
    by_cases hz : Z = 0
    · exact hz
    · have := List.length_pos_iff.2 (glim_ne (b := 4294967296) (n := Z.natAbs) (by omega) (by omega))
      omega
  · intro h; subst h; simp [glim_zero]
theorem field34 (b : Bool) (o : Option Addr) (n c : Nat) (w : World) : (Instr.field 84 (.agg #[.bool b, .slice o n c]) 1).run Tryz.prog w = .ok (.slice o n c) w := by
  have ht := run_underlying (P := Tryz.prog) Tryz.underlying84
  have ht2 := run_underlying (P := Tryz.prog) Tryz.underlying23
  simp [Instr.field, ht, asAgg, part, isAgg, ht2, go_sem]
end Go.Proofs.YtjacoodfhkaioaaGreatDoor
namespace Go.Proofs.YtjacoodfhkaioaaGreatDoor
open Go.ChangeShapes Go.WideShapes Go.ChangeAt Go.RowKit
set_option linter.unusedSimpArgs false
set_option linter.unusedVariables false
set_option maxRecDepth 2000
set_option maxHeartbeats 1000000 in
theorem radd_w (va vb : Value) (X Y : Int) (kk : Nat) (w : World) (hK : kk + 1 ≤ 1000000) (ha : IsN va X kk w) (hb : IsN vb Y kk w) :
    Calls Tryz.prog 93 #[va, vb] w fun e w' => ∃ v', e = .returned v' ∧ IsC v' (X + Y) (kk + 1) w' ∧ Below w.heap.size w w' := by
  have hA : ∀ w', Below w.heap.size w w' → IsN va X kk w' := fun w' hw => ha.below hw
  have hB : ∀ w', Below w.heap.size w w' → IsN vb Y kk w' := fun w' hw => hb.below hw
  obtain ⟨na, oa, la, ca, rfl, hLa, hca, hma, hsa, hka⟩ := ha
  obtain ⟨nb, ob, lb, cb, rfl, hLb, hcb, hmb, hsb, hkb⟩ := hb
  clear hsa hsb hma hmb hLa hLb hca hcb hka hkb
  obtain ⟨kA, kB, kC, hB0, hz0⟩ := boxes3 w (.bool na) (.slice oa la.length ca) (.bool nb) (.slice ob lb.length cb) (.bool false) (.slice none 0 0) 84 84 84
  go_enter Tryz.func93, Tryz.ntmps93
  go_wp2
  generalize (((w.alloc (.cells #[.bool na, .slice oa la.length ca] 84)).alloc (.cells #[.bool nb, .slice ob lb.length cb] 84)).alloc (.cells #[.bool false, .slice none 0 0] 84)) = W0 at *
  obtain ⟨f1, f2, f3, f4⟩ := id kA
  obtain ⟨f5, f6, f7, f8⟩ := id kB
  go_cut [] from 5 to 8 (fun wx => Two X Y kk w wx ∧ After w W0 wx)
  case first =>
    go_region_with (first
        | (go_at_call_of 87 oa
           refine (rnorm_w _ X kk _ (by omega) (hA _ hB0.drew)).mono ?_
           rintro e w1 ⟨s1, rfl, hF1, q1, b1'⟩
           have b1 : Below W0.heap.size W0 w1 := ((Below.refl _ W0).drew).trans b1'
           clear b1'
           obtain ⟨o1, c1, rfl, L1, z1, _⟩ := hF1.parts
           have hB1 : Below w.heap.size w w1 := below_and hB0 (Nat.le_refl _) b1
           have hz1 := b1.size
           obtain ⟨p1, p2, p3, p4⟩ := kA.below b1 (by omega)
           obtain ⟨p5, p6, p7, p8⟩ := kB.below b1 (by omega))
        | (go_at_call_of 87 ob
           refine (rnorm_w _ Y kk _ (by omega) (hB _ hB1)).mono ?_
           rintro e w2 ⟨s2, rfl, hF2, q2, b2'⟩
           have b2 : Below W0.heap.size W0 w2 := below_and b1 (Nat.le_refl _) b2'
           have L1' := L1.below b2'
           clear b2' p1 p2 p3 p4 p5 p6 p7 p8
           obtain ⟨o2, c2, rfl, L2, z2, _⟩ := hF2.parts
           have kA2 := kA.below b2 (by omega)
           have kB2 := kB.below b2 (by omega)
           obtain ⟨p1, p2, p3, p4⟩ := id kA2
           obtain ⟨p5, p6, p7, p8⟩ := id kB2))
    all_goals (go_wp2_with fail; go_meet)
    all_goals (have hAf := after_put (a0 := .bool (decide (X < 0))) (a1 := .slice o1 (glim 4294967296 X.natAbs).length c1) (b0 := .bool (decide (Y < 0))) (b1 := .slice o2 (glim 4294967296 Y.natAbs).length c2) hB0 (by omega) b2; exact ⟨⟨o1, c1, o2, c2, (boxes_put kA kB (by omega) b2).1, (boxes_put kA kB (by omega) b2).2, (L1'.box kA2 _ _).box (kB2.far (by omega)) _ _, (L2.box kA2 _ _).box (kB2.far (by omega)) _ _, z1, z2, q1, q2⟩, hAf⟩)
  case rest =>
    obtain ⟨⟨o1, c1, o2, c2, kA', kB', L1, L2, z1, z2, q1, q2⟩, hAf⟩ := hcut
    have kC' := hAf.1 _ _ _ (by omega) (by omega) kC
    have hsz := hAf.2.1
    have hBx := hAf.2.2
    clear hAf kA kB kC f1 f2 f3 f4 f5 f6 f7 f8 hB0 hA hB
    obtain ⟨f1, f2, f3, f4⟩ := id kA'
    obtain ⟨f5, f6, f7, f8⟩ := id kB'
    by_cases hs : decide (X < 0) = decide (Y < 0)
    · have hs' : (decide (X < 0) == decide (Y < 0)) = true := by rw [hs]; simp
      have hsv := sv_add_same hs
      clear hs
      have hS : Hid (∀ w', Below wc.heap.size wc w' → w'.cell? ⟨w.heap.size, 0, none⟩ = some (.bool (decide (X < 0))) ∧ w'.cell? ⟨w.heap.size, 1, none⟩ = some (.slice o1 (glim 4294967296 X.natAbs).length c1) ∧ w'.cell? ⟨w.heap.size + 1, 0, none⟩ = some (.bool (decide (Y < 0))) ∧ w'.cell? ⟨w.heap.size + 1, 1, none⟩ = some (.slice o2 (glim 4294967296 Y.natAbs).length c2)) := fun w' hb => ⟨(kA'.below hb (by omega)).1, (kA'.below hb (by omega)).2.1, (kB'.below hb (by omega)).1, (kB'.below hb (by omega)).2.1⟩
      go_wp2
      refine wp_region_held_drew (S := fun w' => w'.cell? ⟨w.heap.size, 0, none⟩ = some (.bool (decide (X < 0))) ∧ w'.cell? ⟨w.heap.size, 1, none⟩ = some (.slice o1 (glim 4294967296 X.natAbs).length c1) ∧ w'.cell? ⟨w.heap.size + 1, 0, none⟩ = some (.bool (decide (Y < 0))) ∧ w'.cell? ⟨w.heap.size + 1, 1, none⟩ = some (.slice o2 (glim 4294967296 Y.natAbs).length c2)) (by kernel_rfl) (hS.out _ (Below.refl _ _).drew) (fun hHeld => ?_)
      refine wpAnyH_take (i := 0) (oi := _) (v := ?_) rfl (by kernel_rfl) (by kernel_rfl) (by kernel_rfl) (fun _ _ _ h => h) (Or.inl ⟨by rfl, ?_⟩) (by assumption) ?_
      rotate_left 1
      · (intro w hSw; (try dsimp only at hSw); go_simp; try with_reducible rfl)
      try simp (maxSteps := 10000000) only [List.getElem_toArray, List.getElem_cons_succ, List.getElem_cons_zero, Act.put, List.setIfInBounds_toArray, List.set_cons_zero, List.set_cons_succ]
      refine wpAnyH_take (i := 1) (oi := _) (v := ?_) rfl (by kernel_rfl) (by kernel_rfl) (by kernel_rfl) (fun _ _ _ h => h) (Or.inl ⟨by rfl, ?_⟩) (by assumption) ?_
      rotate_left 1
      · (intro w hSw; (try dsimp only at hSw); go_simp; try with_reducible rfl)
      try simp (maxSteps := 10000000) only [List.getElem_toArray, List.getElem_cons_succ, List.getElem_cons_zero, Act.put, List.setIfInBounds_toArray, List.set_cons_zero, List.set_cons_succ]
      refine wpAnyH_take (i := 2) (oi := _) (v := ?_) rfl (by kernel_rfl) (by kernel_rfl) (by kernel_rfl) (fun _ _ _ h => h) (Or.inl ⟨by rfl, ?_⟩) (by assumption) ?_
      rotate_left 1
      · (intro w hSw; (try dsimp only at hSw); go_simp; try with_reducible rfl)
      try simp (maxSteps := 10000000) only [List.getElem_toArray, List.getElem_cons_succ, List.getElem_cons_zero, Act.put, List.setIfInBounds_toArray, List.set_cons_zero, List.set_cons_succ]
      refine wpAnyH_take (i := 3) (oi := _) (v := ?_) rfl (by kernel_rfl) (by kernel_rfl) (by kernel_rfl) (fun _ _ _ h => h) (Or.inl ⟨by rfl, ?_⟩) (by assumption) ?_
      rotate_left 1
      · (intro w hSw; (try dsimp only at hSw); go_simp; try with_reducible rfl)
      try simp (maxSteps := 10000000) only [List.getElem_toArray, List.getElem_cons_succ, List.getElem_cons_zero, Act.put, List.setIfInBounds_toArray, List.set_cons_zero, List.set_cons_succ]
      refine wpAnyH_take (i := 4) (oi := _) (v := ?_) rfl (by kernel_rfl) (by kernel_rfl) (by kernel_rfl) (fun _ _ _ h => h) (Or.inl ⟨by rfl, ?_⟩) (by assumption) ?_
      rotate_left 1
      · (intro w hSw; (try dsimp only at hSw); go_simp; try with_reducible rfl)
      try simp (maxSteps := 10000000) only [List.getElem_toArray, List.getElem_cons_succ, List.getElem_cons_zero, Act.put, List.setIfInBounds_toArray, List.set_cons_zero, List.set_cons_succ]
      refine wpAnyH_take (i := 5) (oi := _) (v := ?_) rfl (by kernel_rfl) (by kernel_rfl) (by kernel_rfl) (fun _ _ _ h => h) (Or.inl ⟨by rfl, ?_⟩) (by assumption) ?_
      rotate_left 1
      · (intro w hSw; (try dsimp only at hSw); go_simp; try with_reducible rfl)
      try simp (maxSteps := 10000000) only [List.getElem_toArray, List.getElem_cons_succ, List.getElem_cons_zero, Act.put, List.setIfInBounds_toArray, List.set_cons_zero, List.set_cons_succ]
      refine wpAnyH_ready (rs := [6]) (by kernel_rfl) (by simp) ?_
      refine AllReadyH.cons rfl (fun K hK => ?_) AllReadyH.nil
      go_simp
      refine (plus_w o1 o2 c1 c2 _ _ _ (lm_glim (by omega) _) (lm_glim (by omega) _) (by omega) (by omega) L1.drew L2.drew).mono ?_
      rintro e w3 ⟨v3, L, rfl, hF3, hLm, hLv, hLl, _, b3'⟩
      have hLk : L.length ≤ kk + 1 := by omega
      clear hLl
      have b3 : Below wc.heap.size wc w3 := below_of_drew b3'
      clear b3'
      rw [gval_glim (by omega), gval_glim (by omega)] at hLv
      obtain ⟨o3, c3, rfl, L3, z3, _⟩ := hF3.parts
      have hN3 := (IsN.of_open (neg := (decide (X < 0))) (K := kk + 1) L3 z3 hLm hLk)
      rw [hLv, hsv] at hN3
      have hLv' := hid hLv
      clear hLv
      try go_simp
      refine hK.out _ _ ?_ (fun hHeld => ?_)
      · first | exact hSF | exact hS.out _ (by assumption) | assumption | go_keep
      clear hK K
      try simp (maxSteps := 10000000) only [List.getElem_toArray, List.getElem_cons_succ, List.getElem_cons_zero, Act.put, List.setIfInBounds_toArray, List.set_cons_zero, List.set_cons_succ]
      refine wpAnyH_take (i := 7) (oi := _) (v := ?_) rfl (by kernel_rfl) (by kernel_rfl) (by kernel_rfl) (fun _ _ _ h => h) (Or.inl ⟨by rfl, ?_⟩) (by assumption) ?_
      rotate_left 1
      · (intro w hSw; (try dsimp only at hSw); go_simp; try with_reducible rfl)
      try simp (maxSteps := 10000000) only [List.getElem_toArray, List.getElem_cons_succ, List.getElem_cons_zero, Act.put, List.setIfInBounds_toArray, List.set_cons_zero, List.set_cons_succ]
      refine wpAnyH_ready (rs := [8]) (by kernel_rfl) (by simp) ?_
      refine AllReadyH.cons rfl (fun K hK => ?_) AllReadyH.nil
      go_simp
      refine (rnorm_w _ (X + Y) (kk + 1) _ (by omega) hN3).mono ?_
      rintro e w4 ⟨s4, rfl, hF4, hk4, b4'⟩
      have b4 : Below wc.heap.size wc w4 := below_and b3 (Nat.le_refl _) b4'
      have hC4 := hF4.isC hk4
      obtain ⟨o4, c4, rfl, _, _, _⟩ := hF4.parts
      obtain ⟨d4, hd4⟩ : ∃ d, decide (X + Y < 0) = d := ⟨_, rfl⟩
      obtain ⟨n4, hn4⟩ : ∃ n, (glim 4294967296 (X + Y).natAbs).length = n := ⟨_, rfl⟩
      rw [hd4, hn4] at hC4 ⊢
      clear hd4 hn4
      have kA4 := kA'.below b4 (by omega)
      have kB4 := kB'.below b4 (by omega)
      have kC4 := kC'.below b4 (by omega)
      obtain ⟨g1, g2, g3, g4⟩ := id kC4
      try go_simp
      refine hK.out _ _ ?_ (fun hHeld => ?_)
      · first | exact hSF | exact hS.out _ (by assumption) | assumption | go_keep
      clear hK K
      try simp (maxSteps := 10000000) only [List.getElem_toArray, List.getElem_cons_succ, List.getElem_cons_zero, Act.put, List.setIfInBounds_toArray, List.set_cons_zero, List.set_cons_succ]
      refine wpAnyH_ready (rs := [9]) (by kernel_rfl) (by simp) ?_
      refine AllReadyH.cons rfl (fun K hK => ?_) AllReadyH.nil
      go_simp
      have hBf := ((below_and hBx (Nat.le_refl _) b4).setCell (p := ⟨w.heap.size + 1 + 1, 0, none⟩) (by simp; omega) (.bool d4)).setCell (p := ⟨w.heap.size + 1 + 1, 1, none⟩) (by simp; omega) (.slice o4 n4 c4)
      have kCf := kC4.put (u' := .bool d4) (v' := .slice o4 n4 c4)
      have kAf := kA4.far (k := w.heap.size + 1 + 1) (x := .bool d4) (y := .slice o4 n4 c4) (by omega)
      have kBf := kB4.far (k := w.heap.size + 1 + 1) (x := .bool d4) (y := .slice o4 n4 c4) (by omega)
      have hCf := hC4.box kC4 (x := .bool d4) (y := .slice o4 n4 c4)
      clear g1 g2 g3 g4 kA4 kB4 kC4
      generalize ((w4.setCell ⟨w.heap.size + 1 + 1, 0, none⟩ (.bool d4)).setCell ⟨w.heap.size + 1 + 1, 1, none⟩ (.slice o4 n4 c4)) = wF at *
      have hSF := And.intro kAf.1 (And.intro kAf.2.1 (And.intro kBf.1 kBf.2.1))
      obtain ⟨g1, g2, g3, g4⟩ := id kCf
      try go_simp
      refine hK.out _ _ ?_ (fun hHeld => ?_)
      · first | exact hSF | exact hS.out _ (by assumption) | assumption | go_keep
      clear hK K
      try simp (maxSteps := 10000000) only [List.getElem_toArray, List.getElem_cons_succ, List.getElem_cons_zero, Act.put, List.setIfInBounds_toArray, List.set_cons_zero, List.set_cons_succ]
      refine wpAnyH_done (by kernel_rfl) ?_ _
      go_wp2
      refine bodyPost_ret (v := .agg #[.bool d4, .slice o4 n4 c4]) (by simp [results, Tryz.results93, go_sem, g1, g2]) rfl ⟨_, rfl, hCf, hBf⟩
    · have hs' : (decide (X < 0) == decide (Y < 0)) = false := by simpa using hs
      go_wp2_with fail
      refine (mags_w o1 o2 c1 c2 _ _ _ (by omega) (by omega) L1 L2).mono ?_
      rintro e wd ⟨rfl, bd⟩
      have hBx' : Below w.heap.size w wd := below_and hBx (Nat.le_refl _) bd
      have kA2 := kA'.below bd (by omega)
      have kB2 := kB'.below bd (by omega)
      have kC2 := kC'.below bd (by omega)
      have L1' := L1.below bd
      have L2' := L2.below bd
      have hsz' := bd.size
      have hz' : w.heap.size + 3 ≤ wd.heap.size := by omega
      clear f1 f2 f3 f4 f5 f6 f7 f8 kA' kB' kC' hBx bd L1 L2 hsz hsz'
      have hBx := hBx'
      have kA' := kA2
      have kB' := kB2
      have kC' := kC2
      have L1 := L1'
      have L2 := L2'
      clear hBx' kA2 kB2 kC2 L1' L2'
      clear wc
      obtain ⟨wc, rfl⟩ : ∃ x, x = wd := ⟨_, rfl⟩
      obtain ⟨f1, f2, f3, f4⟩ := id kA'
      obtain ⟨f5, f6, f7, f8⟩ := id kB'
      have hS : Hid (∀ w', Below wc.heap.size wc w' → w'.cell? ⟨w.heap.size, 0, none⟩ = some (.bool (decide (X < 0))) ∧ w'.cell? ⟨w.heap.size, 1, none⟩ = some (.slice o1 (glim 4294967296 X.natAbs).length c1) ∧ w'.cell? ⟨w.heap.size + 1, 0, none⟩ = some (.bool (decide (Y < 0))) ∧ w'.cell? ⟨w.heap.size + 1, 1, none⟩ = some (.slice o2 (glim 4294967296 Y.natAbs).length c2)) := fun w' hb => ⟨(kA'.below hb (by omega)).1, (kA'.below hb (by omega)).2.1, (kB'.below hb (by omega)).1, (kB'.below hb (by omega)).2.1⟩
      by_cases hlt : X.natAbs < Y.natAbs
      · have hc : cmpZ (X.natAbs : Int) (Y.natAbs : Int) = -1 := cmpZ_lt (by omega)
        have hsv := sv_add_sub (fun e => hs e.symm) (by omega : X.natAbs ≤ Y.natAbs)
        rw [Int.add_comm] at hsv
        rw [hc]
        have hlen : (glim 4294967296 X.natAbs).length ≤ (glim 4294967296 Y.natAbs).length := Nat.le_of_not_lt fun h => by have := glim_len_lt (by omega) h; omega
        have hle : X.natAbs ≤ Y.natAbs := by omega
        clear hs hc
        go_wp2
        refine wp_region_held_drew (S := fun w' => w'.cell? ⟨w.heap.size, 0, none⟩ = some (.bool (decide (X < 0))) ∧ w'.cell? ⟨w.heap.size, 1, none⟩ = some (.slice o1 (glim 4294967296 X.natAbs).length c1) ∧ w'.cell? ⟨w.heap.size + 1, 0, none⟩ = some (.bool (decide (Y < 0))) ∧ w'.cell? ⟨w.heap.size + 1, 1, none⟩ = some (.slice o2 (glim 4294967296 Y.natAbs).length c2)) (by kernel_rfl) (hS.out _ (Below.refl _ _).drew) (fun hHeld => ?_)
        refine wpAnyH_take (i := 0) (oi := _) (v := ?_) rfl (by kernel_rfl) (by kernel_rfl) (by kernel_rfl) (fun _ _ _ h => h) (Or.inl ⟨by rfl, ?_⟩) (by assumption) ?_
        rotate_left 1
        · (intro w hSw; (try dsimp only at hSw); go_simp; try with_reducible rfl)
        try simp (maxSteps := 10000000) only [List.getElem_toArray, List.getElem_cons_succ, List.getElem_cons_zero, Act.put, List.setIfInBounds_toArray, List.set_cons_zero, List.set_cons_succ]
        refine wpAnyH_take (i := 1) (oi := _) (v := ?_) rfl (by kernel_rfl) (by kernel_rfl) (by kernel_rfl) (fun _ _ _ h => h) (Or.inl ⟨by rfl, ?_⟩) (by assumption) ?_
        rotate_left 1
        · (intro w hSw; (try dsimp only at hSw); go_simp; try with_reducible rfl)
        try simp (maxSteps := 10000000) only [List.getElem_toArray, List.getElem_cons_succ, List.getElem_cons_zero, Act.put, List.setIfInBounds_toArray, List.set_cons_zero, List.set_cons_succ]
        refine wpAnyH_take (i := 2) (oi := _) (v := ?_) rfl (by kernel_rfl) (by kernel_rfl) (by kernel_rfl) (fun _ _ _ h => h) (Or.inl ⟨by rfl, ?_⟩) (by assumption) ?_
        rotate_left 1
        · (intro w hSw; (try dsimp only at hSw); go_simp; try with_reducible rfl)
        try simp (maxSteps := 10000000) only [List.getElem_toArray, List.getElem_cons_succ, List.getElem_cons_zero, Act.put, List.setIfInBounds_toArray, List.set_cons_zero, List.set_cons_succ]
        refine wpAnyH_take (i := 3) (oi := _) (v := ?_) rfl (by kernel_rfl) (by kernel_rfl) (by kernel_rfl) (fun _ _ _ h => h) (Or.inl ⟨by rfl, ?_⟩) (by assumption) ?_
        rotate_left 1
        · (intro w hSw; (try dsimp only at hSw); go_simp; try with_reducible rfl)
        try simp (maxSteps := 10000000) only [List.getElem_toArray, List.getElem_cons_succ, List.getElem_cons_zero, Act.put, List.setIfInBounds_toArray, List.set_cons_zero, List.set_cons_succ]
        refine wpAnyH_take (i := 4) (oi := _) (v := ?_) rfl (by kernel_rfl) (by kernel_rfl) (by kernel_rfl) (fun _ _ _ h => h) (Or.inl ⟨by rfl, ?_⟩) (by assumption) ?_
        rotate_left 1
        · (intro w hSw; (try dsimp only at hSw); go_simp; try with_reducible rfl)
        try simp (maxSteps := 10000000) only [List.getElem_toArray, List.getElem_cons_succ, List.getElem_cons_zero, Act.put, List.setIfInBounds_toArray, List.set_cons_zero, List.set_cons_succ]
        refine wpAnyH_take (i := 5) (oi := _) (v := ?_) rfl (by kernel_rfl) (by kernel_rfl) (by kernel_rfl) (fun _ _ _ h => h) (Or.inl ⟨by rfl, ?_⟩) (by assumption) ?_
        rotate_left 1
        · (intro w hSw; (try dsimp only at hSw); go_simp; try with_reducible rfl)
        try simp (maxSteps := 10000000) only [List.getElem_toArray, List.getElem_cons_succ, List.getElem_cons_zero, Act.put, List.setIfInBounds_toArray, List.set_cons_zero, List.set_cons_succ]
        refine wpAnyH_ready (rs := [6]) (by kernel_rfl) (by simp) ?_
        refine AllReadyH.cons rfl (fun K hK => ?_) AllReadyH.nil
        go_simp
        refine (minus_w o2 o1 c2 c1 _ _ _ (lm_glim (by omega) _) (lm_glim (by omega) _) (by omega) hlen (by rw [gval_glim (by omega), gval_glim (by omega)]; exact hle) L2.drew L1.drew).mono ?_
        rintro e w3 ⟨v3, L, rfl, hF3, hLm, hLv, hLl, b3'⟩
        have hLk : L.length ≤ kk + 1 := by omega
        clear hLl
        have b3 : Below wc.heap.size wc w3 := below_of_drew b3'
        clear b3'
        rw [gval_glim (by omega), gval_glim (by omega)] at hLv
        obtain ⟨o3, c3, rfl, L3, z3, _⟩ := hF3.parts
        have hN3 := (IsN.of_open (neg := (decide (Y < 0))) (K := kk + 1) L3 z3 hLm hLk)
        rw [hLv, hsv] at hN3
        have hLv' := hid hLv
        clear hLv
        try go_simp
        refine hK.out _ _ ?_ (fun hHeld => ?_)
        · first | exact hSF | exact hS.out _ (by assumption) | assumption | go_keep
        clear hK K
        try simp (maxSteps := 10000000) only [List.getElem_toArray, List.getElem_cons_succ, List.getElem_cons_zero, Act.put, List.setIfInBounds_toArray, List.set_cons_zero, List.set_cons_succ]
        refine wpAnyH_take (i := 7) (oi := _) (v := ?_) rfl (by kernel_rfl) (by kernel_rfl) (by kernel_rfl) (fun _ _ _ h => h) (Or.inl ⟨by rfl, ?_⟩) (by assumption) ?_
        rotate_left 1
        · (intro w hSw; (try dsimp only at hSw); go_simp; try with_reducible rfl)
        try simp (maxSteps := 10000000) only [List.getElem_toArray, List.getElem_cons_succ, List.getElem_cons_zero, Act.put, List.setIfInBounds_toArray, List.set_cons_zero, List.set_cons_succ]
        refine wpAnyH_ready (rs := [8]) (by kernel_rfl) (by simp) ?_
        refine AllReadyH.cons rfl (fun K hK => ?_) AllReadyH.nil
        go_simp
        refine (rnorm_w _ (X + Y) (kk + 1) _ (by omega) hN3).mono ?_
        rintro e w4 ⟨s4, rfl, hF4, hk4, b4'⟩
        have b4 : Below wc.heap.size wc w4 := below_and b3 (Nat.le_refl _) b4'
        have hC4 := hF4.isC hk4
        obtain ⟨o4, c4, rfl, _, _, _⟩ := hF4.parts
        obtain ⟨d4, hd4⟩ : ∃ d, decide (X + Y < 0) = d := ⟨_, rfl⟩
        obtain ⟨n4, hn4⟩ : ∃ n, (glim 4294967296 (X + Y).natAbs).length = n := ⟨_, rfl⟩
        rw [hd4, hn4] at hC4 ⊢
        clear hd4 hn4
        have kA4 := kA'.below b4 (by omega)
        have kB4 := kB'.below b4 (by omega)
        have kC4 := kC'.below b4 (by omega)
        obtain ⟨g1, g2, g3, g4⟩ := id kC4
        try go_simp
        refine hK.out _ _ ?_ (fun hHeld => ?_)
        · first | exact hSF | exact hS.out _ (by assumption) | assumption | go_keep
        clear hK K
        try simp (maxSteps := 10000000) only [List.getElem_toArray, List.getElem_cons_succ, List.getElem_cons_zero, Act.put, List.setIfInBounds_toArray, List.set_cons_zero, List.set_cons_succ]
        refine wpAnyH_ready (rs := [9]) (by kernel_rfl) (by simp) ?_
        refine AllReadyH.cons rfl (fun K hK => ?_) AllReadyH.nil
        go_simp
        have hBf := ((below_and hBx (Nat.le_refl _) b4).setCell (p := ⟨w.heap.size + 1 + 1, 0, none⟩) (by simp; omega) (.bool d4)).setCell (p := ⟨w.heap.size + 1 + 1, 1, none⟩) (by simp; omega) (.slice o4 n4 c4)
        have kCf := kC4.put (u' := .bool d4) (v' := .slice o4 n4 c4)
        have kAf := kA4.far (k := w.heap.size + 1 + 1) (x := .bool d4) (y := .slice o4 n4 c4) (by omega)
        have kBf := kB4.far (k := w.heap.size + 1 + 1) (x := .bool d4) (y := .slice o4 n4 c4) (by omega)
        have hCf := hC4.box kC4 (x := .bool d4) (y := .slice o4 n4 c4)
        clear g1 g2 g3 g4 kA4 kB4 kC4
        generalize ((w4.setCell ⟨w.heap.size + 1 + 1, 0, none⟩ (.bool d4)).setCell ⟨w.heap.size + 1 + 1, 1, none⟩ (.slice o4 n4 c4)) = wF at *
        have hSF := And.intro kAf.1 (And.intro kAf.2.1 (And.intro kBf.1 kBf.2.1))
        obtain ⟨g1, g2, g3, g4⟩ := id kCf
        try go_simp
        refine hK.out _ _ ?_ (fun hHeld => ?_)
        · first | exact hSF | exact hS.out _ (by assumption) | assumption | go_keep
        clear hK K
        try simp (maxSteps := 10000000) only [List.getElem_toArray, List.getElem_cons_succ, List.getElem_cons_zero, Act.put, List.setIfInBounds_toArray, List.set_cons_zero, List.set_cons_succ]
        refine wpAnyH_done (by kernel_rfl) ?_ _
        go_wp2
        refine bodyPost_ret (v := .agg #[.bool d4, .slice o4 n4 c4]) (by simp [results, Tryz.results93, go_sem, g1, g2]) rfl ⟨_, rfl, hCf, hBf⟩
      · have hc : (0 : Int) ≤ cmpZ (X.natAbs : Int) (Y.natAbs : Int) := by unfold cmpZ; rw [if_neg (by omega)]; split <;> omega
        have hsv := sv_add_sub hs (by omega : Y.natAbs ≤ X.natAbs)
        have hlen : (glim 4294967296 Y.natAbs).length ≤ (glim 4294967296 X.natAbs).length := Nat.le_of_not_lt fun h => by have := glim_len_lt (by omega) h; omega
        have hle : Y.natAbs ≤ X.natAbs := by omega
        clear hs
        go_wp2
        refine wp_region_held_drew (S := fun w' => w'.cell? ⟨w.heap.size, 0, none⟩ = some (.bool (decide (X < 0))) ∧ w'.cell? ⟨w.heap.size, 1, none⟩ = some (.slice o1 (glim 4294967296 X.natAbs).length c1) ∧ w'.cell? ⟨w.heap.size + 1, 0, none⟩ = some (.bool (decide (Y < 0))) ∧ w'.cell? ⟨w.heap.size + 1, 1, none⟩ = some (.slice o2 (glim 4294967296 Y.natAbs).length c2)) (by kernel_rfl) (hS.out _ (Below.refl _ _).drew) (fun hHeld => ?_)
        refine wpAnyH_take (i := 0) (oi := _) (v := ?_) rfl (by kernel_rfl) (by kernel_rfl) (by kernel_rfl) (fun _ _ _ h => h) (Or.inl ⟨by rfl, ?_⟩) (by assumption) ?_
        rotate_left 1
        · (intro w hSw; (try dsimp only at hSw); go_simp; try with_reducible rfl)
        try simp (maxSteps := 10000000) only [List.getElem_toArray, List.getElem_cons_succ, List.getElem_cons_zero, Act.put, List.setIfInBounds_toArray, List.set_cons_zero, List.set_cons_succ]
        refine wpAnyH_take (i := 1) (oi := _) (v := ?_) rfl (by kernel_rfl) (by kernel_rfl) (by kernel_rfl) (fun _ _ _ h => h) (Or.inl ⟨by rfl, ?_⟩) (by assumption) ?_
        rotate_left 1
        · (intro w hSw; (try dsimp only at hSw); go_simp; try with_reducible rfl)
        try simp (maxSteps := 10000000) only [List.getElem_toArray, List.getElem_cons_succ, List.getElem_cons_zero, Act.put, List.setIfInBounds_toArray, List.set_cons_zero, List.set_cons_succ]
        refine wpAnyH_take (i := 2) (oi := _) (v := ?_) rfl (by kernel_rfl) (by kernel_rfl) (by kernel_rfl) (fun _ _ _ h => h) (Or.inl ⟨by rfl, ?_⟩) (by assumption) ?_
        rotate_left 1
        · (intro w hSw; (try dsimp only at hSw); go_simp; try with_reducible rfl)
        try simp (maxSteps := 10000000) only [List.getElem_toArray, List.getElem_cons_succ, List.getElem_cons_zero, Act.put, List.setIfInBounds_toArray, List.set_cons_zero, List.set_cons_succ]
        refine wpAnyH_take (i := 3) (oi := _) (v := ?_) rfl (by kernel_rfl) (by kernel_rfl) (by kernel_rfl) (fun _ _ _ h => h) (Or.inl ⟨by rfl, ?_⟩) (by assumption) ?_
        rotate_left 1
        · (intro w hSw; (try dsimp only at hSw); go_simp; try with_reducible rfl)
        try simp (maxSteps := 10000000) only [List.getElem_toArray, List.getElem_cons_succ, List.getElem_cons_zero, Act.put, List.setIfInBounds_toArray, List.set_cons_zero, List.set_cons_succ]
        refine wpAnyH_take (i := 4) (oi := _) (v := ?_) rfl (by kernel_rfl) (by kernel_rfl) (by kernel_rfl) (fun _ _ _ h => h) (Or.inl ⟨by rfl, ?_⟩) (by assumption) ?_
        rotate_left 1
        · (intro w hSw; (try dsimp only at hSw); go_simp; try with_reducible rfl)
        try simp (maxSteps := 10000000) only [List.getElem_toArray, List.getElem_cons_succ, List.getElem_cons_zero, Act.put, List.setIfInBounds_toArray, List.set_cons_zero, List.set_cons_succ]
        refine wpAnyH_take (i := 5) (oi := _) (v := ?_) rfl (by kernel_rfl) (by kernel_rfl) (by kernel_rfl) (fun _ _ _ h => h) (Or.inl ⟨by rfl, ?_⟩) (by assumption) ?_
        rotate_left 1
        · (intro w hSw; (try dsimp only at hSw); go_simp; try with_reducible rfl)
        try simp (maxSteps := 10000000) only [List.getElem_toArray, List.getElem_cons_succ, List.getElem_cons_zero, Act.put, List.setIfInBounds_toArray, List.set_cons_zero, List.set_cons_succ]
        refine wpAnyH_ready (rs := [6]) (by kernel_rfl) (by simp) ?_
        refine AllReadyH.cons rfl (fun K hK => ?_) AllReadyH.nil
        go_simp
        refine (minus_w o1 o2 c1 c2 _ _ _ (lm_glim (by omega) _) (lm_glim (by omega) _) (by omega) hlen (by rw [gval_glim (by omega), gval_glim (by omega)]; exact hle) L1.drew L2.drew).mono ?_
        rintro e w3 ⟨v3, L, rfl, hF3, hLm, hLv, hLl, b3'⟩
        have hLk : L.length ≤ kk + 1 := by omega
        clear hLl
        have b3 : Below wc.heap.size wc w3 := below_of_drew b3'
        clear b3'
        rw [gval_glim (by omega), gval_glim (by omega)] at hLv
        obtain ⟨o3, c3, rfl, L3, z3, _⟩ := hF3.parts
        have hN3 := (IsN.of_open (neg := (decide (X < 0))) (K := kk + 1) L3 z3 hLm hLk)
        rw [hLv, hsv] at hN3
        have hLv' := hid hLv
        clear hLv
        try go_simp
        refine hK.out _ _ ?_ (fun hHeld => ?_)
        · first | exact hSF | exact hS.out _ (by assumption) | assumption | go_keep
        clear hK K
        try simp (maxSteps := 10000000) only [List.getElem_toArray, List.getElem_cons_succ, List.getElem_cons_zero, Act.put, List.setIfInBounds_toArray, List.set_cons_zero, List.set_cons_succ]
        refine wpAnyH_take (i := 7) (oi := _) (v := ?_) rfl (by kernel_rfl) (by kernel_rfl) (by kernel_rfl) (fun _ _ _ h => h) (Or.inl ⟨by rfl, ?_⟩) (by assumption) ?_
        rotate_left 1
        · (intro w hSw; (try dsimp only at hSw); go_simp; try with_reducible rfl)
        try simp (maxSteps := 10000000) only [List.getElem_toArray, List.getElem_cons_succ, List.getElem_cons_zero, Act.put, List.setIfInBounds_toArray, List.set_cons_zero, List.set_cons_succ]
        refine wpAnyH_ready (rs := [8]) (by kernel_rfl) (by simp) ?_
        refine AllReadyH.cons rfl (fun K hK => ?_) AllReadyH.nil
        go_simp
        refine (rnorm_w _ (X + Y) (kk + 1) _ (by omega) hN3).mono ?_
        rintro e w4 ⟨s4, rfl, hF4, hk4, b4'⟩
        have b4 : Below wc.heap.size wc w4 := below_and b3 (Nat.le_refl _) b4'
        have hC4 := hF4.isC hk4
        obtain ⟨o4, c4, rfl, _, _, _⟩ := hF4.parts
        obtain ⟨d4, hd4⟩ : ∃ d, decide (X + Y < 0) = d := ⟨_, rfl⟩
        obtain ⟨n4, hn4⟩ : ∃ n, (glim 4294967296 (X + Y).natAbs).length = n := ⟨_, rfl⟩
        rw [hd4, hn4] at hC4 ⊢
        clear hd4 hn4
        have kA4 := kA'.below b4 (by omega)
        have kB4 := kB'.below b4 (by omega)
        have kC4 := kC'.below b4 (by omega)
        obtain ⟨g1, g2, g3, g4⟩ := id kC4
        try go_simp
        refine hK.out _ _ ?_ (fun hHeld => ?_)
        · first | exact hSF | exact hS.out _ (by assumption) | assumption | go_keep
        clear hK K
        try simp (maxSteps := 10000000) only [List.getElem_toArray, List.getElem_cons_succ, List.getElem_cons_zero, Act.put, List.setIfInBounds_toArray, List.set_cons_zero, List.set_cons_succ]
        refine wpAnyH_ready (rs := [9]) (by kernel_rfl) (by simp) ?_
        refine AllReadyH.cons rfl (fun K hK => ?_) AllReadyH.nil
        go_simp
        have hBf := ((below_and hBx (Nat.le_refl _) b4).setCell (p := ⟨w.heap.size + 1 + 1, 0, none⟩) (by simp; omega) (.bool d4)).setCell (p := ⟨w.heap.size + 1 + 1, 1, none⟩) (by simp; omega) (.slice o4 n4 c4)
        have kCf := kC4.put (u' := .bool d4) (v' := .slice o4 n4 c4)
        have kAf := kA4.far (k := w.heap.size + 1 + 1) (x := .bool d4) (y := .slice o4 n4 c4) (by omega)
        have kBf := kB4.far (k := w.heap.size + 1 + 1) (x := .bool d4) (y := .slice o4 n4 c4) (by omega)
        have hCf := hC4.box kC4 (x := .bool d4) (y := .slice o4 n4 c4)
        clear g1 g2 g3 g4 kA4 kB4 kC4
        generalize ((w4.setCell ⟨w.heap.size + 1 + 1, 0, none⟩ (.bool d4)).setCell ⟨w.heap.size + 1 + 1, 1, none⟩ (.slice o4 n4 c4)) = wF at *
        have hSF := And.intro kAf.1 (And.intro kAf.2.1 (And.intro kBf.1 kBf.2.1))
        obtain ⟨g1, g2, g3, g4⟩ := id kCf
        try go_simp
        refine hK.out _ _ ?_ (fun hHeld => ?_)
        · first | exact hSF | exact hS.out _ (by assumption) | assumption | go_keep
        clear hK K
        try simp (maxSteps := 10000000) only [List.getElem_toArray, List.getElem_cons_succ, List.getElem_cons_zero, Act.put, List.setIfInBounds_toArray, List.set_cons_zero, List.set_cons_succ]
        refine wpAnyH_done (by kernel_rfl) ?_ _
        go_wp2
        refine bodyPost_ret (v := .agg #[.bool d4, .slice o4 n4 c4]) (by simp [results, Tryz.results93, go_sem, g1, g2]) rfl ⟨_, rfl, hCf, hBf⟩
end Go.Proofs.YtjacoodfhkaioaaGreatDoor
namespace Go.Proofs.YtjacoodfhkaioaaGreatDoor
open Go.ChangeShapes Go.WideShapes Go.ChangeAt Go.RowKit
set_option linter.unusedSimpArgs false
set_option linter.unusedVariables false
set_option maxRecDepth 2000
theorem Box.set1c {g k : Nat} {u v x : Value} {w : World} (h : Box g u v w) (hne : g ≠ k) : Box g u v (w.setCell ⟨k, 0, none⟩ x) :=
  ⟨(World.cell?_setCell_other _ _ _ _ (by first | (simp; done) | (simp; omega))).trans h.1, (World.cell?_setCell_other _ _ _ _ (by first | (simp; done) | (simp; omega))).trans h.2.1, (frozen_set _ _ rfl _ _).trans h.2.2.1, (frozen_set _ _ rfl _ _).trans h.2.2.2⟩
theorem wrap_cmp (x y : Int) : wrap64 (-cmpZ x y) = cmpZ y x := by
  rw [cmpZ_swap]
  unfold cmpZ wrap64
  split <;> (try split) <;> omega
set_option maxHeartbeats 1000000 in
theorem rcmp_w (va vb : Value) (X Y : Int) (kk : Nat) (w : World) (hK : kk ≤ 1000000) (ha : IsN va X kk w) (hb : IsN vb Y kk w) :
    Calls Tryz.prog 57 #[va, vb] w fun e w' => e = .returned (.int .i64 (cmpZ X Y)) ∧ Below w.heap.size w w' := by
  have hA : ∀ w', Below w.heap.size w w' → IsN va X kk w' := fun w' hw => ha.below hw
  have hB : ∀ w', Below w.heap.size w w' → IsN vb Y kk w' := fun w' hw => hb.below hw
  obtain ⟨na, oa, la, ca, rfl, hLa, hca, hma, hsa, hka⟩ := ha
  obtain ⟨nb, ob, lb, cb, rfl, hLb, hcb, hmb, hsb, hkb⟩ := hb
  clear hsa hsb hma hmb hLa hLb hca hcb hka hkb
  obtain ⟨kA, kB, hB0, hz0⟩ := boxes2 w (.bool na) (.slice oa la.length ca) (.bool nb) (.slice ob lb.length cb) 84 84
  obtain ⟨R, hR⟩ : ∃ R, cmpZ X Y = R := ⟨_, rfl⟩
  rw [hR]
  have hRH := hid hR
  clear hR
  go_enter Tryz.func57, Tryz.ntmps57
  go_wp2
  generalize ((w.alloc (.cells #[.bool na, .slice oa la.length ca] 84)).alloc (.cells #[.bool nb, .slice ob lb.length cb] 84)) = W0 at *
  obtain ⟨f1, f2, f3, f4⟩ := id kA
  obtain ⟨f5, f6, f7, f8⟩ := id kB
  go_cut [] from 6 to 9 (fun wx => Two X Y kk w wx ∧ After w W0 wx)
  case first =>
    go_region_with (first
        | (go_at_call_of 87 oa
           refine (rnorm_w _ X kk _ (by omega) (hA _ hB0.drew)).mono ?_
           rintro e w1 ⟨s1, rfl, hF1, q1, b1'⟩
           have b1 : Below W0.heap.size W0 w1 := ((Below.refl _ W0).drew).trans b1'
           clear b1'
           obtain ⟨o1, c1, rfl, L1, z1, _⟩ := hF1.parts
           have hB1 : Below w.heap.size w w1 := below_and hB0 (Nat.le_refl _) b1
           have hz1 := b1.size
           obtain ⟨p1, p2, p3, p4⟩ := kA.below b1 (by omega)
           obtain ⟨p5, p6, p7, p8⟩ := kB.below b1 (by omega))
        | (go_at_call_of 87 ob
           refine (rnorm_w _ Y kk _ (by omega) (hB _ hB1)).mono ?_
           rintro e w2 ⟨s2, rfl, hF2, q2, b2'⟩
           have b2 : Below W0.heap.size W0 w2 := below_and b1 (Nat.le_refl _) b2'
           have L1' := L1.below b2'
           clear b2' p1 p2 p3 p4 p5 p6 p7 p8
           obtain ⟨o2, c2, rfl, L2, z2, _⟩ := hF2.parts
           have kA2 := kA.below b2 (by omega)
           have kB2 := kB.below b2 (by omega)
           obtain ⟨p1, p2, p3, p4⟩ := id kA2
           obtain ⟨p5, p6, p7, p8⟩ := id kB2))
    all_goals (go_wp2_with fail; go_meet)
    all_goals (have hAf := after_put (a0 := .bool (decide (X < 0))) (a1 := .slice o1 (glim 4294967296 X.natAbs).length c1) (b0 := .bool (decide (Y < 0))) (b1 := .slice o2 (glim 4294967296 Y.natAbs).length c2) hB0 (by omega) b2; exact ⟨⟨o1, c1, o2, c2, (boxes_put kA kB (by omega) b2).1, (boxes_put kA kB (by omega) b2).2, (L1'.box kA2 _ _).box (kB2.far (by omega)) _ _, (L2.box kA2 _ _).box (kB2.far (by omega)) _ _, z1, z2, q1, q2⟩, hAf⟩)
  case rest =>
    obtain ⟨⟨o1, c1, o2, c2, kA', kB', L1, L2, z1, z2, q1, q2⟩, hAf⟩ := hcut
    have hsz := hAf.2.1
    have hBx := hAf.2.2
    clear hAf kA kB f1 f2 f3 f4 f5 f6 f7 f8 hB0 hA hB
    have bA := kA'.lt
    obtain ⟨f1, f2, f3, f4⟩ := id kA'
    obtain ⟨f5, f6, f7, f8⟩ := id kB'
    by_cases hx : X < 0
    · have hdx : decide (X < 0) = true := by simp [hx]
      rw [hdx] at f1 kA'
      by_cases hy : Y < 0
      · have hdy : decide (Y < 0) = true := by simp [hy]
        rw [hdy] at f5
        have hres : R = cmpZ (Y.natAbs : Int) (X.natAbs : Int) := by
          rw [← hRH.out, ← cmpZ_neg]; congr 1 <;> omega
        have Hres := hid hres
        clear hx hy hdx hdy hRH hres
        go_wp2_with fail
        refine (mags_w o1 o2 c1 c2 _ _ _ (by omega) (by omega) L1 L2).mono ?_
        rintro e wd ⟨rfl, bd⟩
        obtain ⟨g1, g2, g3, g4⟩ := id (kA'.below bd bA)
        go_wp2
        go_ret
        exact ⟨by rw [Hres.out]; exact congrArg (fun z => Ending.returned (Value.int .i64 z)) (wrap_cmp _ _), below_and hBx (Nat.le_refl _) bd⟩
      · have hdy : decide (Y < 0) = false := by simp [hy]
        rw [hdy] at f5
        have hres : R = -1 := by rw [← hRH.out, cmpZ_lt (by omega)]
        clear hx hy hdx hdy hRH
        go_wp2
        go_ret
        exact ⟨by rw [hres]; rfl, hBx⟩
    · have hdx : decide (X < 0) = false := by simp [hx]
      rw [hdx] at f1 kA'
      by_cases hy : Y < 0
      · have hdy : decide (Y < 0) = true := by simp [hy]
        rw [hdy] at f5
        have hres : R = 1 := by rw [← hRH.out, cmpZ_gt (by omega)]
        clear hx hy hdx hdy hRH
        go_wp2
        go_ret
        exact ⟨by rw [hres]; rfl, hBx⟩
      · have hdy : decide (Y < 0) = false := by simp [hy]
        rw [hdy] at f5
        have hres : R = cmpZ (X.natAbs : Int) (Y.natAbs : Int) := by
          rw [← hRH.out]; congr 1 <;> omega
        have Hres := hid hres
        clear hx hy hdx hdy hRH hres
        go_wp2_with fail
        refine (mags_w o1 o2 c1 c2 _ _ _ (by omega) (by omega) L1 L2).mono ?_
        rintro e wd ⟨rfl, bd⟩
        obtain ⟨g1, g2, g3, g4⟩ := id (kA'.below bd bA)
        go_wp2
        go_ret
        exact ⟨by rw [Hres.out]; rfl, below_and hBx (Nat.le_refl _) bd⟩
end Go.Proofs.YtjacoodfhkaioaaGreatDoor
