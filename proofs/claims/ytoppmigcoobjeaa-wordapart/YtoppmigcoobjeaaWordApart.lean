/- WordApart answers true for every two pairs of numbers and every two headers, and leaves its arguments as they were; no condition. -/
import Derived.Test.YtoppmigcoobjeaaWordOpen
import Derived.ChangeOld
import Derived.Below
import Derived.Handy
import Derived.Deep.RegionHeld3
namespace Go.Proofs.Ytoppmigcoobjeaa.wordApart
open Go.ChangeShapes Go.WideShapes Go.ChangeAt Go.RowKit
set_option linter.unusedSimpArgs false
set_option linter.unusedVariables false
set_option maxHeartbeats 4000000 in
theorem core_tt (a0 a1 b0 b1 k s t k' s' t' : Int) (b b' : Bool) (w : World) (fa : fitsV a1 = true) (fb : fitsV b1 = true) :
    Calls Try.prog 6 #[.agg #[.int .i64 a0, .int .i64 a1], .agg #[.int .i64 b0, .int .i64 b1], .agg #[.int .i64 k, .int .i64 s, .int .i64 t, .bool b, .int .i64 k', .int .i64 s', .int .i64 t', .bool b']] w fun e w' => e = .returned (.bool true) ∧ Below w.heap.size w w' := by
  have w1 := make_wf k s t b
  have w2 := make_wf k' s' t' b'
  have hq1 : Hid (((ofV (a0 % 8) a1 == ofV (b0 % 8) b1) = true ∧ (a0 % 8 == b0 % 8) = true ∧ (a1 == b1) = true) ∨ ((ofV (a0 % 8) a1 == ofV (b0 % 8) b1) = false ∧ (a0 % 8 == b0 % 8) = false) ∨ ((ofV (a0 % 8) a1 == ofV (b0 % 8) b1) = false ∧ (a0 % 8 == b0 % 8) = true ∧ (a1 == b1) = false)) := by
    show _ ∨ _
    have hi := of_eq_iff (s := a0 % 8) (t := b0 % 8) (by omega) (by omega) (by omega) (by omega) fa fb
    simp only [beq_iff_eq, beq_eq_false_iff_ne, ne_eq, hi]
    by_cases q : a0 % 8 = b0 % 8 <;> by_cases r : a1 = b1 <;> simp [q, r]
  have hq2 : Hid ((tagV (makeV k s t b) = 4) ∨ (tagV (makeV k s t b) = 6 ∧ tagV (makeV k' s' t' b') = 4) ∨ (tagV (makeV k s t b) = 6 ∧ tagV (makeV k' s' t' b') = 6 ∧ (makeV k s t b == makeV k' s' t' b') = true ∧ k = k' ∧ s = s' ∧ t = t' ∧ b = b') ∨ (tagV (makeV k s t b) = 6 ∧ tagV (makeV k' s' t' b') = 6 ∧ (makeV k s t b == makeV k' s' t' b') = false)) := by
    show _ ∨ _
    cases m1 : mayV k s t
    · exact .inl (tag_make_no m1)
    cases m2 : mayV k' s' t'
    · exact .inr (.inl ⟨tag_make_yes m1, tag_make_no m2⟩)
    have hi := make_eq_iff (b := b) (b' := b') m1 m2
    by_cases q : makeV k s t b = makeV k' s' t' b'
    · exact .inr (.inr (.inl ⟨tag_make_yes m1, tag_make_yes m2, beq_iff_eq.2 q, hi.1 q⟩))
    · exact .inr (.inr (.inr ⟨tag_make_yes m1, tag_make_yes m2, beq_eq_false_iff_ne.2 q⟩))
  have e1 := and7 a0
  have e2 := and7 b0
  go_enter Try.func6, Try.ntmps6
  go_wp2_with (first
        | (go_at_call 7; refine (awake_w _).mono ?_; rintro e w1 ⟨rfl, rfl⟩)
        | (go_at_call 11; refine (fits_w _ _).mono ?_; rintro e w1 ⟨rfl, rfl⟩)
        | (go_at_call 13; refine (tag_w _ (by assumption) _).mono ?_; rintro e w1 ⟨rfl, rfl⟩))
  go_region_held3 (fun w' => w'.cell? ⟨w.heap.size, 0, none⟩ = some (.int .i64 a0) ∧ w'.cell? ⟨w.heap.size, 1, none⟩ = some (.int .i64 a1) ∧ w'.cell? ⟨w.heap.size + 1, 0, none⟩ = some (.int .i64 b0) ∧ w'.cell? ⟨w.heap.size + 1, 1, none⟩ = some (.int .i64 b1) ∧ w'.cell? ⟨w.heap.size + 1 + 1, 0, none⟩ = some (.int .i64 k) ∧ w'.cell? ⟨w.heap.size + 1 + 1, 1, none⟩ = some (.int .i64 s) ∧ w'.cell? ⟨w.heap.size + 1 + 1, 2, none⟩ = some (.int .i64 t) ∧ w'.cell? ⟨w.heap.size + 1 + 1, 3, none⟩ = some (.bool b) ∧ w'.cell? ⟨w.heap.size + 1 + 1, 4, none⟩ = some (.int .i64 k') ∧ w'.cell? ⟨w.heap.size + 1 + 1, 5, none⟩ = some (.int .i64 s') ∧ w'.cell? ⟨w.heap.size + 1 + 1, 6, none⟩ = some (.int .i64 t') ∧ w'.cell? ⟨w.heap.size + 1 + 1, 7, none⟩ = some (.bool b')) (refine ⟨?_, ?_, ?_, ?_, ?_, ?_, ?_, ?_, ?_, ?_, ?_, ?_⟩ <;> go_simp) (fail)
  go_wp2_with (first
        | (go_at_call 7; refine (awake_w _).mono ?_; rintro e w1 ⟨rfl, rfl⟩)
        | (go_at_call 11; refine (fits_w _ _).mono ?_; rintro e w1 ⟨rfl, rfl⟩)
        | (go_at_call 13; refine (tag_w _ (by assumption) _).mono ?_; rintro e w1 ⟨rfl, rfl⟩))
  go_region_held3 (fun w' => w'.cell? ⟨w.heap.size, 0, none⟩ = some (.int .i64 a0) ∧ w'.cell? ⟨w.heap.size, 1, none⟩ = some (.int .i64 a1) ∧ w'.cell? ⟨w.heap.size + 1, 0, none⟩ = some (.int .i64 b0) ∧ w'.cell? ⟨w.heap.size + 1, 1, none⟩ = some (.int .i64 b1) ∧ w'.cell? ⟨w.heap.size + 1 + 1, 0, none⟩ = some (.int .i64 k) ∧ w'.cell? ⟨w.heap.size + 1 + 1, 1, none⟩ = some (.int .i64 s) ∧ w'.cell? ⟨w.heap.size + 1 + 1, 2, none⟩ = some (.int .i64 t) ∧ w'.cell? ⟨w.heap.size + 1 + 1, 3, none⟩ = some (.bool b) ∧ w'.cell? ⟨w.heap.size + 1 + 1, 4, none⟩ = some (.int .i64 k') ∧ w'.cell? ⟨w.heap.size + 1 + 1, 5, none⟩ = some (.int .i64 s') ∧ w'.cell? ⟨w.heap.size + 1 + 1, 6, none⟩ = some (.int .i64 t') ∧ w'.cell? ⟨w.heap.size + 1 + 1, 7, none⟩ = some (.bool b')) (refine ⟨?_, ?_, ?_, ?_, ?_, ?_, ?_, ?_, ?_, ?_, ?_, ?_⟩ <;> go_simp) (first
        | (go_at_call 10; refine (of_w _ _ _).mono ?_; rintro e w1 ⟨rfl, rfl⟩))
  go_wp2_with (first
        | (go_at_call 7; refine (awake_w _).mono ?_; rintro e w1 ⟨rfl, rfl⟩)
        | (go_at_call 11; refine (fits_w _ _).mono ?_; rintro e w1 ⟨rfl, rfl⟩)
        | (go_at_call 13; refine (tag_w _ (by assumption) _).mono ?_; rintro e w1 ⟨rfl, rfl⟩))
  go_region_held3 (fun w' => w'.cell? ⟨w.heap.size, 0, none⟩ = some (.int .i64 a0) ∧ w'.cell? ⟨w.heap.size, 1, none⟩ = some (.int .i64 a1) ∧ w'.cell? ⟨w.heap.size + 1, 0, none⟩ = some (.int .i64 b0) ∧ w'.cell? ⟨w.heap.size + 1, 1, none⟩ = some (.int .i64 b1) ∧ w'.cell? ⟨w.heap.size + 1 + 1, 0, none⟩ = some (.int .i64 k) ∧ w'.cell? ⟨w.heap.size + 1 + 1, 1, none⟩ = some (.int .i64 s) ∧ w'.cell? ⟨w.heap.size + 1 + 1, 2, none⟩ = some (.int .i64 t) ∧ w'.cell? ⟨w.heap.size + 1 + 1, 3, none⟩ = some (.bool b) ∧ w'.cell? ⟨w.heap.size + 1 + 1, 4, none⟩ = some (.int .i64 k') ∧ w'.cell? ⟨w.heap.size + 1 + 1, 5, none⟩ = some (.int .i64 s') ∧ w'.cell? ⟨w.heap.size + 1 + 1, 6, none⟩ = some (.int .i64 t') ∧ w'.cell? ⟨w.heap.size + 1 + 1, 7, none⟩ = some (.bool b')) (refine ⟨?_, ?_, ?_, ?_, ?_, ?_, ?_, ?_, ?_, ?_, ?_, ?_⟩ <;> go_simp) (first
        | (go_at_call 19; refine (header_w _ _ _ _ _).mono ?_; rintro e w1 ⟨rfl, rfl⟩)
        | (go_at_call 9; refine (make_w _ _ _ _ _).mono ?_; rintro e w1 ⟨rfl, rfl⟩))
  all_goals clear fa fb e1 e2
  rcases hq1.out with ⟨f1, f2, f3⟩ | ⟨f1, f2⟩ | ⟨f1, f2, f3⟩ <;> rcases hq2.out with g1 | ⟨g1, g2⟩ | ⟨g1, g2, g3, rfl, rfl, rfl, rfl⟩ | ⟨g1, g2, g3⟩
  all_goals clear hq1 hq2
  all_goals (
    go_wp2_with (first
        | (go_at_call 7; refine (awake_w _).mono ?_; rintro e w1 ⟨rfl, rfl⟩)
        | (go_at_call 11; refine (fits_w _ _).mono ?_; rintro e w1 ⟨rfl, rfl⟩)
        | (go_at_call 13; refine (tag_w _ (by assumption) _).mono ?_; rintro e w1 ⟨rfl, rfl⟩))
    all_goals go_ret
    all_goals refine ⟨?_, ?_⟩
    all_goals first | (simp; done) | (exfalso; subst_vars; simp at g3; done) | go_grown)
set_option maxHeartbeats 4000000 in
theorem core_f (a0 a1 b0 b1 k s t k' s' t' : Int) (b b' : Bool) (w : World) (hf : fitsV a1 = false ∨ (fitsV a1 = true ∧ fitsV b1 = false)) :
    Calls Try.prog 6 #[.agg #[.int .i64 a0, .int .i64 a1], .agg #[.int .i64 b0, .int .i64 b1], .agg #[.int .i64 k, .int .i64 s, .int .i64 t, .bool b, .int .i64 k', .int .i64 s', .int .i64 t', .bool b']] w fun e w' => e = .returned (.bool true) ∧ Below w.heap.size w w' := by
  have e1 := and7 a0
  have e2 := and7 b0
  rcases hf with f1 | ⟨f1, f2⟩
  all_goals (
    go_enter Try.func6, Try.ntmps6
    go_wp2_with (first
        | (go_at_call 7; refine (awake_w _).mono ?_; rintro e w1 ⟨rfl, rfl⟩)
        | (go_at_call 11; refine (fits_w _ _).mono ?_; rintro e w1 ⟨rfl, rfl⟩)
        | (go_at_call 13; refine (tag_w _ (by assumption) _).mono ?_; rintro e w1 ⟨rfl, rfl⟩))
    go_region_held3 (fun w' => w'.cell? ⟨w.heap.size, 0, none⟩ = some (.int .i64 a0) ∧ w'.cell? ⟨w.heap.size, 1, none⟩ = some (.int .i64 a1) ∧ w'.cell? ⟨w.heap.size + 1, 0, none⟩ = some (.int .i64 b0) ∧ w'.cell? ⟨w.heap.size + 1, 1, none⟩ = some (.int .i64 b1) ∧ w'.cell? ⟨w.heap.size + 1 + 1, 0, none⟩ = some (.int .i64 k) ∧ w'.cell? ⟨w.heap.size + 1 + 1, 1, none⟩ = some (.int .i64 s) ∧ w'.cell? ⟨w.heap.size + 1 + 1, 2, none⟩ = some (.int .i64 t) ∧ w'.cell? ⟨w.heap.size + 1 + 1, 3, none⟩ = some (.bool b) ∧ w'.cell? ⟨w.heap.size + 1 + 1, 4, none⟩ = some (.int .i64 k') ∧ w'.cell? ⟨w.heap.size + 1 + 1, 5, none⟩ = some (.int .i64 s') ∧ w'.cell? ⟨w.heap.size + 1 + 1, 6, none⟩ = some (.int .i64 t') ∧ w'.cell? ⟨w.heap.size + 1 + 1, 7, none⟩ = some (.bool b')) (refine ⟨?_, ?_, ?_, ?_, ?_, ?_, ?_, ?_, ?_, ?_, ?_, ?_⟩ <;> go_simp) (fail)
    go_wp2_with (first
        | (go_at_call 7; refine (awake_w _).mono ?_; rintro e w1 ⟨rfl, rfl⟩)
        | (go_at_call 11; refine (fits_w _ _).mono ?_; rintro e w1 ⟨rfl, rfl⟩)
        | (go_at_call 13; refine (tag_w _ (by assumption) _).mono ?_; rintro e w1 ⟨rfl, rfl⟩))
    go_ret
    refine ⟨by simp, by go_grown⟩)
theorem core (a0 a1 b0 b1 k s t k' s' t' : Int) (b b' : Bool) (w : World) :
    Calls Try.prog 6 #[.agg #[.int .i64 a0, .int .i64 a1], .agg #[.int .i64 b0, .int .i64 b1], .agg #[.int .i64 k, .int .i64 s, .int .i64 t, .bool b, .int .i64 k', .int .i64 s', .int .i64 t', .bool b']] w fun e w' => e = .returned (.bool true) ∧ Below w.heap.size w w' := by
  cases f1 : fitsV a1
  · exact core_f a0 a1 b0 b1 k s t k' s' t' b b' w (.inl f1)
  · cases f2 : fitsV b1
    · exact core_f a0 a1 b0 b1 k s t k' s' t' b b' w (.inr ⟨f1, f2⟩)
    · exact core_tt a0 a1 b0 b1 k s t k' s' t' b b' w f1 f2

theorem cells_pair : Try.prog.cellsOf 43 = 2 := by kernel_rfl
theorem cells_hdrs : Try.prog.cellsOf 44 = 8 := by kernel_rfl
theorem cells_int64 : Try.prog.cellsOf 2 = 1 := by kernel_rfl
theorem okWide_array {P : Program} {w : World} {r : Reach} {base : Nat} {t : TypeId} {v : Value} {n : Nat} {e : TypeId} (ht : P.underlying t = some (.array n e)) (h : Value.okWide P w r base t v) : ∃ cs, v = .agg cs ∧ cs.size = P.cellsOf t := by
  simp only [Value.okWide, ht] at h
  obtain ⟨cs, h1, h2, _⟩ := h
  exact ⟨cs, h1, h2⟩
theorem open_pair {H : Type} {enc : TypeId × Value → H} {w : World} {base : Nat} {v : Value} {d : DataW H} {p : List MemPlace}
    (o : Value.okWide Try.prog w .any base 43 v) (h : DataW.Trod enc Try.prog w 0 (fun _ => true) true 43 v d p) :
    ∃ (a0 a1 : Int), v = .agg #[.int .i64 a0, .int .i64 a1] := by
  obtain ⟨cs, rfl, hs⟩ := okWide_array Try.underlying43 o
  rw [cells_pair] at hs
  obtain ⟨fuel, hf⟩ := h
  obtain ⟨xs, m, _, _, _, hl, hx⟩ := DataW.trod_array Try.underlying43 hf
  obtain ⟨l⟩ := cs
  match l, hs with
  | [c0, c1], _ =>
    match xs, hl with
    | [y0, y1], _ =>
      have h0 := hx 0 (by omega)
      have h1 := hx 1 (by omega)
      rw [cells_int64] at h0 h1
      simp [Value.cells] at h0 h1
      obtain ⟨a0, f0, _⟩ := DataW.trod_int Try.underlying2 h0
      obtain ⟨a1, f1, _⟩ := DataW.trod_int Try.underlying2 h1
      simp at f0 f1
      subst f0 f1
      exact ⟨a0, a1, rfl⟩
theorem open_hdrs {H : Type} {enc : TypeId × Value → H} {w : World} {base : Nat} {v : Value} {d : DataW H} {p : List MemPlace}
    (o : Value.okWide Try.prog w .any base 44 v) (h : DataW.Trod enc Try.prog w 0 (fun _ => true) true 44 v d p) :
    ∃ (k s t k' s' t' : Int) (b b' : Bool), v = .agg #[.int .i64 k, .int .i64 s, .int .i64 t, .bool b, .int .i64 k', .int .i64 s', .int .i64 t', .bool b'] := by
  obtain ⟨cs, rfl, hs⟩ := okWide_array Try.underlying44 o
  rw [cells_hdrs] at hs
  obtain ⟨fuel, hf⟩ := h
  obtain ⟨xs, m, _, _, _, hl, hx⟩ := DataW.trod_array Try.underlying44 hf
  obtain ⟨l⟩ := cs
  match l, hs with
  | [c0, c1, c2, c3, c4, c5, c6, c7], _ =>
    match xs, hl with
    | [y0, y1], _ =>
      have h0 := hx 0 (by omega)
      have h1 := hx 1 (by omega)
      rw [cells_hdr] at h0 h1
      simp [Value.cells] at h0 h1
      obtain ⟨z0, z1, z2, z3, n, _, _, e0, e1, e2, e3⟩ := Go.Joins.trod_struct4 Try.underlying36 h0
      obtain ⟨z4, z5, z6, z7, n', _, _, e4, e5, e6, e7⟩ := Go.Joins.trod_struct4 Try.underlying36 h1
      have ci : Try.prog.cellsOf 3 = 1 := by kernel_rfl
      have cb : Try.prog.cellsOf 4 = 1 := by kernel_rfl
      simp [ci, cb] at e0 e1 e2 e3 e4 e5 e6 e7
      obtain ⟨k, f0, _⟩ := DataW.trod_int Try.underlying3 e0
      obtain ⟨s, f1, _⟩ := DataW.trod_int Try.underlying3 e1
      obtain ⟨t, f2, _⟩ := DataW.trod_int Try.underlying3 e2
      obtain ⟨b, f3, _⟩ := DataW.trod_bool Try.underlying4 e3
      obtain ⟨k', f4, _⟩ := DataW.trod_int Try.underlying3 e4
      obtain ⟨s', f5, _⟩ := DataW.trod_int Try.underlying3 e5
      obtain ⟨t', f6, _⟩ := DataW.trod_int Try.underlying3 e6
      obtain ⟨b', f7, _⟩ := DataW.trod_bool Try.underlying4 e7
      simp at f0 f1 f2 f3 f4 f5 f6 f7
      subst f0 f1 f2 f3 f4 f5 f6 f7
      exact ⟨k, s, t, k', s', t', b, b', rfl⟩

theorem walk {H : Type} (enc : TypeId × Value → H) (base : Nat) (w : World) (v0 v1 v2 : Value) (d0 d1 d2 : DataW H) (p0 p1 p2 : List MemPlace)
    (o0 : Value.okWide Try.prog w .any base 43 v0) (h0 : DataW.Trod enc Try.prog w 0 (fun _ => true) true 43 v0 d0 p0)
    (o1 : Value.okWide Try.prog w .any base 43 v1) (h1 : DataW.Trod enc Try.prog w 0 (fun _ => true) true 43 v1 d1 p1)
    (o2 : Value.okWide Try.prog w .any base 44 v2) (h2 : DataW.Trod enc Try.prog w 0 (fun _ => true) true 44 v2 d2 p2) :
    Calls Try.prog 6 #[v0, v1, v2] w fun e w' => e = .returned (.bool true) ∧ Below w.heap.size w w' := by
  obtain ⟨a0, a1, rfl⟩ := open_pair o0 h0
  obtain ⟨b0, b1, rfl⟩ := open_pair o1 h1
  obtain ⟨k, s, t, k', s', t', b, b', rfl⟩ := open_hdrs o2 h2
  exact core a0 a1 b0 b1 k s t k' s' t' b b' w
theorem own : ownKnob Try.prog.godebug = none := by kernel_rfl
theorem laidOut : laidOutB Try.prog = true := by kernel_rfl

theorem contract (H : Type) (enc : TypeId × Value → H) (W : World) (base : Nat) (args : Array Value) (ds gs : List (DataW H)) (before : List MemPlace)
    (hval : ∀ (j : Nat) t v, Try.f6.params[j]? = some t → args[j]? = some v → Value.okWide Try.prog W .any base t v)
    (hW : DataW.Whole enc Try.prog Try.f6.params.toList Rows.wordApartSpec.vars false W args.toList ds gs before) :
    Calls Try.prog 6 args W fun e W' => ∃ v, e = .returned v ∧ Rows.wordApartSpec.post enc Try.prog Try.f6 false true false false W args v W' := by
  have hW' := hW
  obtain ⟨p, q, hA0, hV, rfl, hfz, hnd⟩ := hW
  have hA : DataW.TrodAll enc Try.prog W 0 (fun _ => true) true Try.f6.params.toList args.toList ds p := hA0
  rw [Try.params6] at hA hval
  obtain ⟨v0, vs0, d0, ds0, p0, q0, hargs, rfl, rfl, h0, r0⟩ := trodAll_cons hA
  obtain ⟨v1, vs1, d1, ds1, p1, q1, rfl, rfl, rfl, h1, r1⟩ := trodAll_cons r0
  obtain ⟨v2, vs2, d2, ds2, p2, q2, rfl, rfl, rfl, h2, r2⟩ := trodAll_cons r1
  obtain ⟨rfl, rfl, rfl⟩ := trodAll_nil r2
  obtain rfl : args = #[v0, v1, v2] := by cases args; simp_all
  obtain ⟨rfl, rfl⟩ := trodVars_none hV
  have lt0 : ∀ x ∈ p0, x.block < W.heap.size := by obtain ⟨m, hm⟩ := h0; exact DataW.trod_lt m _ _ _ hm
  have lt1 : ∀ x ∈ p1, x.block < W.heap.size := by obtain ⟨m, hm⟩ := h1; exact DataW.trod_lt m _ _ _ hm
  have lt2 : ∀ x ∈ p2, x.block < W.heap.size := by obtain ⟨m, hm⟩ := h2; exact DataW.trod_lt m _ _ _ hm
  clear hA0
  refine (walk enc base W v0 v1 v2 d0 d1 d2 p0 p1 p2 (hval 0 43 v0 rfl rfl) h0 (hval 1 43 v1 rfl rfl) h1 (hval 2 44 v2 rfl rfl) h2).mono fun e W' ⟨he, bel⟩ => ?_
  subst he
  exact ⟨_, rfl, _, _, _, [], _, [], hW', trodAll_mk1 (shut_bool Try.underlying4 _), (trodAll_cons_mk (Below.trod laidOut (by kernel_rfl) (of_decide_eq_true (by kernel_rfl)) h0 bel lt0) (trodAll_cons_mk (Below.trod laidOut (by kernel_rfl) (of_decide_eq_true (by kernel_rfl)) h1 bel lt1) (trodAll_cons_mk (Below.trod laidOut (by kernel_rfl) (of_decide_eq_true (by kernel_rfl)) h2 bel lt2) trodAll_mk0))), rfl, bel.frame _, fun h => by cases h⟩

set_option maxRecDepth 100000 in
theorem lifted (os : Os) (started : os.Started) (H : Type) (enc : TypeId × Value → H) :
    ReturnsInHanded {} Try.checked os 6 .any (Rows.wordApartSpec.pre6 enc Try.prog Try.f6 Rows.wordApartRow.domain false) (Rows.wordApartSpec.post enc Try.prog Try.f6 false true false false) := by
  refine returnsInHanded_of_change (C := Try.checked) own started (by kernel_rfl) Try.func6
    (ChangeSpec.witness6 (enc := enc) (C := Try.checked) false ⟨#[], #[.agg #[.int .i64 0, .int .i64 0], .agg #[.int .i64 0, .int .i64 0], .agg #[.int .i64 0, .int .i64 0, .int .i64 0, .bool false, .int .i64 0, .int .i64 0, .int .i64 0, .bool false]], []⟩ 8 (by kernel_rfl) (by kernel_rfl) (by kernel_rfl) (by kernel_rfl)) ?_
  intro W base args ds gs before hval hW _ _
  exact contract H enc W base args ds gs before hval hW

theorem over : Rows.wordApartRow.holds Try.pinned (OpenSpec.ofChange Rows.wordApartSpec) :=
  OpenClaim.holds_of_wide 6 Try.f6 rfl rfl rfl rfl rfl rfl rfl ⟨rfl, rfl, rfl, rfl, rfl⟩ rfl rfl rfl rfl rfl (by kernel_rfl) Try.func6 (by kernel_rfl)
    (of_decide_eq_true (by kernel_rfl)) (by unfold Func.isWrapper; first | (rw [if_pos (by decide +kernel)]; kernel_rfl) | (rw [if_neg (by decide +kernel)]; exact ⟨rfl, rfl⟩))
    (fun os started H enc _ => lifted os started H enc)
end Go.Proofs.Ytoppmigcoobjeaa.wordApart
namespace Go.Proofs.Ytoppmigcoobjeaa
/-- THE GIVEN STATEMENT. -/
theorem wordApart_holds : Rows.WordApartSaid := wordApart.over
#print axioms wordApart_holds
end Go.Proofs.Ytoppmigcoobjeaa

