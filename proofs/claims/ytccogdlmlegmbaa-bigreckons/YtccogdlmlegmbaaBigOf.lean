/- Of, Norm of package big; slices.Clone at limbs. -/
import Derived.Test.YtccogdlmlegmbaaBigMul
import Derived.Laws.AppendOwn
import Derived.Laws.AppendOwnNone
import Derived.Lib.SliceRun
namespace Go.Proofs.Ytccogdlmlegmbaa
open Go.ChangeShapes Go.WideShapes Go.ChangeAt Go.RowKit
set_option linter.unusedSimpArgs false
set_option linter.unusedVariables false
theorem lies_pair (w : World) (lo hi : Nat) (t : TypeId) : Lies (some ⟨w.heap.size, 0, none⟩) [lo, hi] (w.alloc (.cells #[.int .u32 (lo : Int), .int .u32 (hi : Int)] t)) := fun j x hx => by
  refine ⟨_, rfl, ?_⟩
  rw [addr_add, Nat.zero_add, World.cell?_alloc_mark]
  match j, hx with
  | 0, hx => simp at hx; subst hx; rfl
  | 1, hx => simp at hx; subst hx; rfl
  | j + 2, hx => simp at hx
set_option maxHeartbeats 1000000 in
theorem of_w (n : Int) (w : World) (h0 : -9223372036854775808 ≤ n) (h1 : n < 9223372036854775808) :
    Calls Try.prog 11 #[.int .i64 n] w fun e w' => ∃ v', e = .returned v' ∧ IsC v' n 2 w' ∧ Below w.heap.size w w' := by
  obtain ⟨m, hm⟩ : ∃ m : Nat, n.natAbs = m := ⟨_, rfl⟩
  have hlo : IntKind.u32.wrap (m : Int) = ((m % 4294967296 : Nat) : Int) := by rw [IntKind.wrap_u32]; omega
  have hhi : IntKind.u32.wrap ((m : Int) / 4294967296) = ((m / 4294967296 : Nat) : Int) := by rw [IntKind.wrap_u32]; omega
  have hBx : Below w.heap.size w (w.alloc (.cells #[.bool false, .slice none 0 0] 25)) := (Below.refl _ w).alloc (Nat.le_refl _) _
  have hBy : Below w.heap.size w ((w.alloc (.cells #[.bool false, .slice none 0 0] 25)).alloc (.cells #[.int .u32 ((m % 4294967296 : Nat) : Int), .int .u32 ((m / 4294967296 : Nat) : Int)] 63)) := hBx.alloc (by simp) _
  have kC : Box w.heap.size (.bool false) (.slice none 0 0) ((w.alloc (.cells #[.bool false, .slice none 0 0] 25)).alloc (.cells #[.int .u32 ((m % 4294967296 : Nat) : Int), .int .u32 ((m / 4294967296 : Nat) : Int)] 63)) := (Box.new w _ _ _).alloc _ (by simp)
  have hL : Lies (some ⟨w.heap.size + 1, 0, none⟩) [m % 4294967296, m / 4294967296] ((w.alloc (.cells #[.bool false, .slice none 0 0] 25)).alloc (.cells #[.int .u32 ((m % 4294967296 : Nat) : Int), .int .u32 ((m / 4294967296 : Nat) : Int)] 63)) := by
    have := lies_pair (w.alloc (.cells #[.bool false, .slice none 0 0] 25)) (m % 4294967296) (m / 4294967296) 63
    simp only [World.size_alloc] at this
    exact this
  have hN : IsN (.agg #[.bool (decide (n < 0)), .slice (some ⟨w.heap.size + 1, 0, none⟩) 2 2]) n 2 ((w.alloc (.cells #[.bool false, .slice none 0 0] 25)).alloc (.cells #[.int .u32 ((m % 4294967296 : Nat) : Int), .int .u32 ((m / 4294967296 : Nat) : Int)] 63)) := by
    refine ⟨_, _, [m % 4294967296, m / 4294967296], 2, rfl, hL, by simp, ?_, ?_, by simp⟩
    · exact Lm.cons (by omega) (Lm.cons (by omega) (Lm.nil _))
    · have : gval 4294967296 [m % 4294967296, m / 4294967296] = m := by simp only [gval]; omega
      rw [this]; unfold sv
      by_cases hn : n < 0
      · simp only [hn, decide_true, if_true]; omega
      · simp only [hn, decide_false, Bool.false_eq_true, if_false]; omega
  generalize hg : m % 4294967296 = lo at *
  generalize hg2 : m / 4294967296 = hi at *
  have hz : ((w.alloc (.cells #[.bool false, .slice none 0 0] 25)).alloc (.cells #[.int .u32 (lo : Int), .int .u32 (hi : Int)] 63)).heap.size = w.heap.size + 2 := by simp
  by_cases hn : n < 0
  · have hd : decide (n < 0) = true := by simp [hn]
    rw [hd] at hN
    have w1 : IntKind.u64.wrap (-IntKind.u64.wrap n) = (m : Int) := by rw [IntKind.wrap_u64, IntKind.wrap_u64]; omega
    clear hm hg hg2 hd hL
    go_enter Try.func11, Try.ntmps11
    go_wp2_with fail
    generalize ((w.alloc (.cells #[.bool false, .slice none 0 0] 25)).alloc (.cells #[.int .u32 (lo : Int), .int .u32 (hi : Int)] 63)) = W0 at *
    refine (view_w _ n 2 _ (by omega) hN).mono ?_
    rintro e w4 ⟨v4, rfl, hv4, b4⟩
    obtain ⟨o4, c4, rfl, L4, z4, q4⟩ := (hv4 _ hN).below b4
    have hB4 := below_and hBy (Nat.le_refl _) b4
    have kC4 := kC.below b4 (by omega)
    obtain ⟨e1, e2, e3, e4⟩ := id kC4
    go_wp2
    refine bodyPost_ret (v := .agg #[.bool (decide (n < 0)), .slice o4 (glim 4294967296 n.natAbs).length c4]) (by simp [results, Try.results11, go_sem, e1, e2, hn]) rfl ⟨_, rfl, ?_, ?_⟩
    · exact (show IsC _ n _ _ from ⟨o4, c4, rfl, L4, z4, q4⟩).box kC4
    · exact (hB4.setCell (p := ⟨w.heap.size, 0, none⟩) (by simp) _).setCell (p := ⟨w.heap.size, 1, none⟩) (by simp) _
  · have hd : decide (n < 0) = false := by simp [hn]
    rw [hd] at hN
    have w1 : IntKind.u64.wrap n = (m : Int) := by rw [IntKind.wrap_u64]; omega
    clear hm hg hg2 hd hL
    go_enter Try.func11, Try.ntmps11
    go_wp2_with fail
    generalize ((w.alloc (.cells #[.bool false, .slice none 0 0] 25)).alloc (.cells #[.int .u32 (lo : Int), .int .u32 (hi : Int)] 63)) = W0 at *
    refine (view_w _ n 2 _ (by omega) hN).mono ?_
    rintro e w4 ⟨v4, rfl, hv4, b4⟩
    obtain ⟨o4, c4, rfl, L4, z4, q4⟩ := (hv4 _ hN).below b4
    have hB4 := below_and hBy (Nat.le_refl _) b4
    have kC4 := kC.below b4 (by omega)
    obtain ⟨e1, e2, e3, e4⟩ := id kC4
    go_wp2
    refine bodyPost_ret (v := .agg #[.bool (decide (n < 0)), .slice o4 (glim 4294967296 n.natAbs).length c4]) (by simp [results, Try.results11, go_sem, e1, e2, hn]) rfl ⟨_, rfl, ?_, ?_⟩
    · exact (show IsC _ n _ _ from ⟨o4, c4, rfl, L4, z4, q4⟩).box kC4
    · exact (hB4.setCell (p := ⟨w.heap.size, 0, none⟩) (by simp) _).setCell (p := ⟨w.heap.size, 1, none⟩) (by simp) _
/-- limbs in memory of the call's own, from B on -/
def Fr (B : Nat) (v : Value) (l : List Nat) (w : World) : Prop := w.ownsRow B 63 1 v l.length (l.map fun (x : Nat) => Value.int .u32 (x : Int))
theorem Fr.nil (B : Nat) (w : World) : Fr B (.slice none 0 0) [] w := World.ownsRow_nil _ _ _ _
theorem Fr.own {B g c : Nat} {l : List Nat} {w : World} {n : Nat} (h : Fr B (.slice (some ⟨g, 0, none⟩) n c) l w) : B ≤ g ∧ g < w.heap.size ∧ Own g l w ∧ l.length ≤ c := by
  rcases h.2 with ⟨hv, h0⟩ | ⟨g', cap, cur, hv, hb, hg, hnc, hcm, hcs, htake⟩
  · simp at hv
  · simp only [Value.slice.injEq, Option.some.injEq, Addr.mk.injEq, and_true] at hv
    obtain ⟨rfl, rfl, rfl⟩ := hv
    refine ⟨hb, (Array.getElem?_eq_some_iff.1 hg).1, ⟨fun j x hj => ?_, fun j => ?_⟩, hnc⟩
    · have hc : w.cell? ⟨g, j, none⟩ = cur[j]? := by simp [World.cell?, hg]
      rw [hc, ← Array.getElem?_toList]
      have hj' : j < l.length := (List.getElem?_eq_some_iff.1 hj).1
      have := congrArg (·[j]?) htake
      simp only [List.getElem?_take, List.getElem?_map, hj, Option.map_some, Nat.mul_one, if_pos hj'] at this
      exact this
    · simp [World.frozen?, hg]
theorem Fr.shape {B : Nat} {v : Value} {l : List Nat} {w : World} (h : Fr B v l w) : (v = .slice none 0 0 ∧ l = []) ∨ ∃ g c, v = .slice (some ⟨g, 0, none⟩) l.length c := by
  rcases h.2 with ⟨hv, h0⟩ | ⟨g, cap, cur, hv, _⟩
  · exact .inl ⟨hv, List.eq_nil_of_length_eq_zero h0⟩
  · exact .inr ⟨g, cap, hv⟩
theorem Fr.parts {B : Nat} {v : Value} {l : List Nat} {w : World} (h : Fr B v l w) : ∃ o c, v = .slice o l.length c ∧ Lies o l w ∧ l.length ≤ c ∧ (l ≠ [] → ∃ g, o = some ⟨g, 0, none⟩ ∧ B ≤ g ∧ g < w.heap.size ∧ Own g l w) := by
  rcases h.shape with ⟨rfl, rfl⟩ | ⟨g, c, rfl⟩
  · exact ⟨none, 0, rfl, fun j x hx => by simp at hx, by simp, fun e => absurd rfl e⟩
  · obtain ⟨h1, h2, h3, h4⟩ := h.own
    exact ⟨_, c, rfl, h3.lies, h4, fun _ => ⟨g, rfl, h1, h2, h3⟩⟩
theorem Fr.below {B : Nat} {v : Value} {l : List Nat} {w w' : World} (h : Fr B v l w) (hb : Below w.heap.size w w') : Fr B v l w' := by
  refine ⟨h.1, ?_⟩
  rcases h.2 with hn | ⟨g, cap, cur, hv, hbg, hg, rest⟩
  · exact .inl hn
  · exact .inr ⟨g, cap, cur, hv, hbg, (hb.block g (Array.getElem?_eq_some_iff.1 hg).1).trans hg, rest⟩
theorem Fr.set {B : Nat} {v : Value} {l : List Nat} {w : World} (h : Fr B v l w) {p : Addr} (hp : p.block < B) (x : Value) : Fr B v l (w.setCell p x) := by
  refine ⟨h.1, ?_⟩
  rcases h.2 with hn | ⟨g, cap, cur, hv, hbg, hg, rest⟩
  · exact .inl hn
  · refine .inr ⟨g, cap, cur, hv, hbg, ?_, rest⟩
    rw [Below.heap_setCell _ _ _ _ (fun e => by omega)]; exact hg
theorem Fr.mono {B B' : Nat} {v : Value} {l : List Nat} {w : World} (h : Fr B v l w) (hB : B' ≤ B) : Fr B' v l w := by
  refine ⟨h.1, ?_⟩
  rcases h.2 with hn | ⟨g, cap, cur, hv, hbg, rest⟩
  · exact .inl hn
  · exact .inr ⟨g, cap, cur, hv, by omega, rest⟩
set_option maxHeartbeats 1000000 in
theorem clone_w (o : Option Addr) (c : Nat) (l : List Nat) (w : World) (hl : l.length ≤ 1000000) (h : Lies o l w) :
    Calls Try.prog 47 #[.slice o l.length c] w fun e w' => ∃ v', e = .returned v' ∧ Fr w.heap.size v' l w' ∧ Below w.heap.size w w' := by
  have q : ∀ (w : World) (a : Option Addr) (n c n' c' : Nat), (binOp .eql 23 (.slice a n c) (.slice none n' c')).run Try.prog w = .ok (.bool a.isNone) w := fun w a n c n' c' => Lib.run_eql_slice_nil w _ _ a n c n' c' Try.underlying23
  cases o with
  | none =>
    have hl0 : l = [] := by
      cases l with
      | nil => rfl
      | cons x t => obtain ⟨a, ha, _⟩ := h 0 x (by simp); simp at ha
    subst hl0
    go_enter Try.func47, Try.ntmps47
    go_wp2
    go_ret
    exact ⟨_, rfl, Fr.nil _ _, Below.refl _ _⟩
  | some a =>
    obtain ⟨i0, hi, hz0, hz1, hz2⟩ := info_parts info32u
    have A : Hid (Lies (some a) l w) := hid h
    clear h
    go_enter Try.func47, Try.ntmps47
    go_wp2_with (at_builtin; refine wpList_append_own _ rfl _ _ 23 rfl w.heap.size 63 i0 (.int .u32 0) 1 4 Try.underlying23 hi hz0 hz1 hz2 rfl (by decide) _ _ _ rfl (World.ownsRow_made w #[] 0 (Nat.le_refl _) (Nat.zero_le _) rfl) a l.length c (l.map fun (x : Nat) => Value.int .u32 (x : Int)) rfl ?c1 ?c2 ?c3 ?c4 ?c5 ?c6 ?_)
    case c1 => simp
    case c2 =>
      intro j u hj
      rw [List.getElem?_map] at hj
      cases hx : l[j]? with
      | none => rw [hx] at hj; simp at hj
      | some x =>
        rw [hx] at hj
        simp only [Option.map_some, Option.some.injEq] at hj
        subst hj
        obtain ⟨a', ha, hc⟩ := A.out j x hx
        injection ha with ha; subst ha
        exact (((Below.refl w.heap.size w).alloc (Nat.le_refl _) _).cell (World.block_lt_of_cell? _ _ hc)).trans hc
    case c3 => intro u hu; obtain ⟨x, _, rfl⟩ := List.mem_map.1 hu; rfl
    case c4 => unfold maxLen; omega
    case c5 => omega
    case c6 => simp
    intro v' w1 hown hgrow hnil
    go_wp2
    go_ret
    refine ⟨v', rfl, ?_, ?_⟩
    · unfold Fr; simpa using hown
    · exact ((Below.refl _ w).alloc (Nat.le_refl _) _).grown hgrow (by simp) (by intro k hk; simp [Value.ownBlock] at hk; omega)
/-- of a value: the same number, as a Norm, in memory of the call's own -/
theorem norm_w (v : Value) (Z : Int) (K : Nat) (w : World) (hK : K ≤ 1000000) (h : IsN v Z K w) :
    Calls Try.prog 27 #[v] w fun e w' => ∃ sl, e = .returned (.agg #[.bool (decide (Z < 0)), sl]) ∧ Fr w.heap.size sl (glim 4294967296 Z.natAbs) w' ∧ (glim 4294967296 Z.natAbs).length ≤ K ∧ Below w.heap.size w w' := by
  have hA : ∀ w', Below w.heap.size w w' → IsN v Z K w' := fun w' hw => h.below hw
  obtain ⟨neg, o, l, c, rfl, hL, hc, hm, hs, hk⟩ := h
  obtain ⟨kA, kB, hB0, hz0⟩ := boxes2 w (.bool neg) (.slice o l.length c) (.bool false) (.slice none 0 0) 25 25
  clear hL hc hm hs hk
  go_enter Try.func27, Try.ntmps27
  go_wp2_with fail
  generalize ((w.alloc (.cells #[.bool neg, .slice o l.length c] 25)).alloc (.cells #[.bool false, .slice none 0 0] 25)) = W0 at *
  refine (view_w _ Z K _ hK (hA _ hB0)).mono ?_
  rintro e w1 ⟨v1, rfl, hv1, b1⟩
  obtain ⟨o1, c1, rfl, L1, z1, q1⟩ := hv1 w (hA w (Below.refl _ _))
  have hz1 := b1.size
  have hB1 := below_and hB0 (Nat.le_refl _) b1
  have kA1 := kA.below b1 (by omega)
  have kB1 := kB.below b1 (by omega)
  obtain ⟨p1, p2, p3, p4⟩ := id kA1
  clear b1 hA kA kB hv1
  go_wp2_with fail
  have kA2 : Box w.heap.size (.bool (decide (Z < 0))) (.slice o1 (glim 4294967296 Z.natAbs).length c1) ((w1.setCell ⟨w.heap.size, 0, none⟩ (.bool (decide (Z < 0)))).setCell ⟨w.heap.size, 1, none⟩ (.slice o1 (glim 4294967296 Z.natAbs).length c1)) := kA1.put
  have kB2 := kB1.far (k := w.heap.size) (x := .bool (decide (Z < 0))) (y := .slice o1 (glim 4294967296 Z.natAbs).length c1) (by omega)
  have hB2 := (hB1.setCell (p := ⟨w.heap.size, 0, none⟩) (Nat.le_refl _) (.bool (decide (Z < 0)))).setCell (p := ⟨w.heap.size, 1, none⟩) (Nat.le_refl _) (.slice o1 (glim 4294967296 Z.natAbs).length c1)
  have hz2 : w.heap.size + 2 ≤ ((w1.setCell ⟨w.heap.size, 0, none⟩ (.bool (decide (Z < 0)))).setCell ⟨w.heap.size, 1, none⟩ (.slice o1 (glim 4294967296 Z.natAbs).length c1)).heap.size := by simp; omega
  clear kA1 kB1 p1 p2 p3 p4 hB1
  generalize (w1.setCell ⟨w.heap.size, 0, none⟩ (.bool (decide (Z < 0)))).setCell ⟨w.heap.size, 1, none⟩ (.slice o1 (glim 4294967296 Z.natAbs).length c1) = w2 at *
  refine (clone_w o1 c1 _ _ (by omega) (L1.below hB2)).mono ?_
  rintro e w3 ⟨sl, rfl, hF, b3⟩
  have kA3 := kA2.below b3 (by omega)
  have kB3 := kB2.below b3 (by omega)
  have hB3 := below_and hB2 (Nat.le_refl _) b3
  obtain ⟨p1, p2, p3, p4⟩ := id kA3
  obtain ⟨r1, r2, r3, r4⟩ := id kB3
  have hz3 := b3.size
  obtain ⟨o3, c3, rfl, L3, z3, hown⟩ := hF.parts
  clear kA2 kB2 b3
  go_wp2
  refine bodyPost_ret (v := .agg #[.bool (decide (Z < 0)), .slice o3 (glim 4294967296 Z.natAbs).length c3]) (by simp [results, Try.results27, go_sem, r1, r2]) rfl ⟨_, rfl, ?_, q1, ?_⟩
  · exact (((hF.set (p := ⟨w.heap.size, 1, none⟩) (by simp; omega) _).set (p := ⟨w.heap.size + 1, 0, none⟩) (by simp; omega) _).set (p := ⟨w.heap.size + 1, 1, none⟩) (by simp; omega) _).mono (by omega)
  · exact ((hB3.setCell (p := ⟨w.heap.size, 1, none⟩) (by simp) _).setCell (p := ⟨w.heap.size + 1, 0, none⟩) (by simp) _).setCell (p := ⟨w.heap.size + 1, 1, none⟩) (by simp) _
end Go.Proofs.Ytccogdlmlegmbaa
