/- An escape, as the reference reads it, is what the signs say. -/
import Derived.Test.YtppfgcbigohkkaaDoorRunesRRev
import Derived.Test.YtppfgcbigohkkaaDoorRunesRead
namespace Go.Proofs.YtppfgcbigohkkaaDoor
open Go.ChangeShapes Go.WideShapes Go.ChangeAt Go.RowKit Go.Shelf
set_option linter.unusedSimpArgs false
set_option linter.unusedVariables false

theorem rhex_w (r : Nat) (w : World) (hr : r ≤ 1114111) :
    Calls Tryd.prog 51 #[.int .i32 (r : Int)] w fun e w' => e = .returned (.int .i64 (if digV r = 16 then -1 else (digV r : Int))) ∧ w = w' := by
  obtain ⟨D, hD⟩ : ∃ D, digV r = D := ⟨_, rfl⟩
  rw [hD]
  unfold digV at hD
  by_cases h1 : 48 ≤ r ∧ r ≤ 57
  · rw [if_pos h1] at hD
    have a1 : (48 : Int) ≤ (r : Int) := by omega
    have a2 : (r : Int) ≤ 57 := by omega
    have e1 : ¬ D = 16 := by omega
    have e2 : (r : Int) - 48 = (D : Int) := by omega
    rw [if_neg e1]
    go_enter Tryd.func51, Tryd.ntmps51
    go_wp2
    all_goals go_ret
    all_goals exact ⟨rfl, rfl⟩
  · rw [if_neg h1] at hD
    by_cases h2 : 97 ≤ r ∧ r ≤ 102
    · rw [if_pos h2] at hD
      have a1 : (97 : Int) ≤ (r : Int) := by omega
      have a2 : (r : Int) ≤ 102 := by omega
      have a3 : (57 : Int) < (r : Int) := by omega
      have e1 : ¬ D = 16 := by omega
      have e2 : (r : Int) - 97 + 10 = (D : Int) := by omega
      rw [if_neg e1]
      go_enter Tryd.func51, Tryd.ntmps51
      go_wp2
      all_goals go_ret
      all_goals exact ⟨rfl, rfl⟩
    · rw [if_neg h2] at hD
      by_cases h3 : 65 ≤ r ∧ r ≤ 70
      · rw [if_pos h3] at hD
        have a1 : (65 : Int) ≤ (r : Int) := by omega
        have a2 : (r : Int) ≤ 70 := by omega
        have a3 : (57 : Int) < (r : Int) := by omega
        have a4 : ¬ (97 : Int) ≤ (r : Int) := by omega
        have e1 : ¬ D = 16 := by omega
        have e2 : (r : Int) - 65 + 10 = (D : Int) := by omega
        rw [if_neg e1]
        go_enter Tryd.func51, Tryd.ntmps51
        go_wp2
        all_goals go_ret
        all_goals exact ⟨rfl, rfl⟩
      · rw [if_neg h3] at hD
        subst hD
        rw [if_pos rfl]
        go_enter Tryd.func51, Tryd.ntmps51
        go_wp2
        all_goals first
          | (exfalso; omega)
          | (go_ret; exact ⟨rfl, rfl⟩)

/-- What an escape at a place is: the sign and the place behind it, or what is wrong. -/
def EscSpec (X : List Nat) (at0 r at1 er : Nat) : Prop :=
  (er = 0 ∧ okR r ∧ at0 < at1 ∧ at1 ≤ X.length ∧ (∀ out num dig, out.length < 255 → ∃ n d, runQ 255 1 out num dig (X.drop at0) = runQ 255 0 (out ++ [r]) n d (X.drop at1)) ∧ ∀ out num dig, out.length = 255 → runQ 255 1 out num dig (X.drop at0) = (3, [], [])) ∨
  (er ≠ 0 ∧ ∀ out num dig, runQ 255 1 out num dig (X.drop at0) = (er, [], []))

theorem drop_at {X : List Nat} {k r : Nat} (h : X[k]? = some r) : X.drop k = r :: X.drop (k + 1) := by
  obtain ⟨hk, hr⟩ := List.getElem?_eq_some_iff.1 h
  rw [List.drop_eq_getElem_cons hk, hr]
theorem esc_simple (X : List Nat) (k r c : Nat) (hX : X[k]? = some c) (hok : okR r) (he : ∀ out num dig, escQ 255 out num dig c = addQ 255 out num dig r) : EscSpec X k r (k + 1) 0 := by
  have hk : k < X.length := (List.getElem?_eq_some_iff.1 hX).1
  refine Or.inl ⟨rfl, hok, by omega, by omega, ?_, ?_⟩
  · intro out num dig hl
    refine ⟨num, dig, ?_⟩
    rw [drop_at hX]
    exact runQ_step 255 1 out num dig c _ 0 (out ++ [r]) num dig (by omega) (by
      unfold takeQ; rw [if_pos rfl, he, addQ_ok _ _ _ _ _ hl])
  · intro out num dig hl
    have ht : takeQ 255 1 out num dig c = (3, 0, out, num, dig) := by
      unfold takeQ; rw [if_pos rfl, he]; unfold addQ; rw [if_pos hl]
    rw [drop_at hX, runQ_bad 255 1 out num dig c _ (by omega) (by rw [ht]; simp), ht]
theorem digV_le (r : Nat) : digV r ≤ 16 := by
  unfold digV
  split
  · omega
  · split
    · omega
    · split <;> omega

set_option maxHeartbeats 4000000 in
set_option maxRecDepth 100000 in
theorem escape_w (g cap at0 : Nat) (X : List Nat) (w : World) (hX : RowR g X w) (hok : okRs X) (hlen : X.length ≤ 1000000) (hat : at0 ≤ X.length) :
    Calls Tryd.prog 35 #[.slice (some ⟨g, 0, none⟩) X.length cap, .int .i64 (at0 : Int)] w fun e w' => ∃ r at1 er : Nat, e = .returned (.tuple #[.int .i32 (r : Int), .int .i64 (at1 : Int), .int .i64 (er : Int)]) ∧ Below w.heap.size w w' ∧ EscSpec X at0 r at1 er := by
  by_cases h1 : at0 < X.length
  · have h1z : ¬ (X.length : Int) ≤ (at0 : Int) := by omega
    have h1d : decide (X.length ≤ at0) = false := by simp [h1]
    obtain ⟨c, hc⟩ : ∃ c, X[at0]? = some c := ⟨X[at0], by simp [h1]⟩
    have cc := hX at0 c hc
    have hcl : c ≤ 1114111 := by have := hok c (List.mem_of_getElem? hc); unfold okR at this; omega
    by_cases c1 : c = 39 ∨ c = 92
    · have hz : ((c : Int) == 39) = true ∨ (((c : Int) == 39) = false ∧ ((c : Int) == 92) = true) := by
        rcases c1 with rfl | rfl
        · exact Or.inl rfl
        · exact Or.inr ⟨rfl, rfl⟩
      have hE : EscSpec X at0 c (at0 + 1) 0 := esc_simple X at0 c c hc (hok c (List.mem_of_getElem? hc)) (fun out num dig => by unfold escQ; rw [if_pos c1])
      clear c1
      rcases hz with hz | ⟨hz, hz2⟩
      all_goals
        go_enter Tryd.func35, Tryd.ntmps35
        go_wp2
        refine bodyPost_ret (v := .tuple #[.int .i32 (c : Int), .int .i64 ((at0 + 1 : Nat) : Int), .int .i64 ((0 : Nat) : Int)]) ?_ rfl ⟨c, at0 + 1, 0, rfl, Below.refl _ _, hE⟩
        simp [results, Tryd.results35, go_sem]
    · have a1 : ((c : Int) == 39) = false := by simp; omega
      have a2 : ((c : Int) == 92) = false := by simp; omega
      by_cases c2 : c = 110
      · have a3 : ((c : Int) == 110) = true := by subst c2; rfl
        have hE : EscSpec X at0 10 (at0 + 1) 0 := esc_simple X at0 10 c hc (okR_ascii (by decide)) (fun out num dig => by unfold escQ; rw [if_neg c1, if_pos c2])
        clear c1 c2
        go_enter Tryd.func35, Tryd.ntmps35
        go_wp2
        refine bodyPost_ret (v := .tuple #[.int .i32 ((10 : Nat) : Int), .int .i64 ((at0 + 1 : Nat) : Int), .int .i64 ((0 : Nat) : Int)]) ?_ rfl ⟨10, at0 + 1, 0, rfl, Below.refl _ _, hE⟩
        simp [results, Tryd.results35, go_sem]
      · have a3 : ((c : Int) == 110) = false := by simp; omega
        by_cases c3 : c = 120
        · have a4 : ((c : Int) == 120) = true := by subst c3; rfl
          have hstart : Hid (∀ out num dig, runQ 255 1 out num dig (X.drop at0) = runQ 255 2 out 0 0 (X.drop (at0 + 1))) := hid (fun out num dig => by
            rw [drop_at hc]
            exact runQ_step 255 1 out num dig c _ 2 out 0 0 (by omega) (by unfold takeQ escQ; rw [if_pos rfl, if_neg c1, if_neg c2, if_pos c3]))
          clear c1 c2 c3
          go_enter Tryd.func35, Tryd.ntmps35
          go_wp2
          go_loopw [1, 7, 8] (fun a n k wr => ∃ (p num dig : Nat), a = .int .i64 (p : Int) ∧ n = .int .i64 (num : Int) ∧ k = .int .i64 (dig : Int) ∧ wr = w ∧ at0 < p ∧ p ≤ X.length ∧ num < 16 ^ dig ∧ dig ≤ 6 ∧ Hid (∀ out n0 d0, runQ 255 1 out n0 d0 (X.drop at0) = runQ 255 2 out num dig (X.drop p))) (fun a _ _ _ => X.length - (intOf a).toNat)
          case atStart => exact ⟨at0 + 1, 0, 0, by go_num, rfl, rfl, rfl, by omega, by omega, by simp, by omega, hid hstart.out⟩
          case round =>
            obtain ⟨p, num, dig, rfl, rfl, rfl, rfl, hp0, hpl, hnum, hdig, hH⟩ := hrel
            have hn6 := pow16_le hnum hdig
            by_cases hp : p < X.length
            · have hpz : (p : Int) < (X.length : Int) := by omega
              obtain ⟨d, hd⟩ : ∃ d, X[p]? = some d := ⟨X[p], by simp [hp]⟩
              have cd := hX p d hd
              have hdl : d ≤ 1114111 := by have := hok d (List.mem_of_getElem? hd); unfold okR at this; omega
              have ch := rhex_w d wr hdl
              by_cases hx : digV d = 16
              · rw [if_pos hx] at ch
                have hlz : ¬ (X.length : Int) ≤ (p : Int) := by omega
                have hw32 : IntKind.i32.wrap (num : Int) = (num : Int) := by rw [IntKind.wrap_i32]; omega
                by_cases hk0 : dig = 0
                · have k0z : ((dig : Int) == 0) = true := by rw [hk0]; rfl
                  have hbad : EscSpec X at0 0 p 4 := Or.inr ⟨by decide, fun out n0 d0 => by
                    have ht : takeQ 255 2 out num dig d = (4, 2, out, num, dig) := by
                      unfold takeQ numQ; rw [if_neg (by omega), if_pos rfl]
                      by_cases h59 : d = 59
                      · rw [if_pos h59, if_pos (Or.inl hk0)]
                      · rw [if_neg h59, if_pos (Or.inl hx)]
                    rw [hH.out, drop_at hd, runQ_bad 255 2 out num dig d _ (by omega) (by rw [ht]; simp), ht]⟩
                  clear hx hk0
                  go_wp2_with fail
                  refine ch.mono ?_
                  rintro e w1 ⟨rfl, rfl⟩
                  go_wp2
                  refine bodyPost_ret (v := .tuple #[.int .i32 ((0 : Nat) : Int), .int .i64 (p : Int), .int .i64 ((4 : Nat) : Int)]) ?_ rfl ⟨0, p, 4, rfl, Below.refl _ _, hbad⟩
                  simp [results, Tryd.results35, go_sem]
                · have k0z : ((dig : Int) == 0) = false := by simp; omega
                  by_cases h59 : d = 59
                  · have d59 : ((d : Int) != 59) = false := by rw [h59]; rfl
                    cases hvr : vR num with
                    | false =>
                      have cv := validRune_w (num : Int) wr
                      rw [show Lib.validRune (num : Int) = false from hvr] at cv
                      have hbad : EscSpec X at0 0 p 4 := Or.inr ⟨by decide, fun out n0 d0 => by
                        have ht : takeQ 255 2 out num dig d = (4, 2, out, num, dig) := by
                          unfold takeQ numQ; rw [if_neg (by omega), if_pos rfl, if_pos h59, if_pos (Or.inr hvr)]
                        rw [hH.out, drop_at hd, runQ_bad 255 2 out num dig d _ (by omega) (by rw [ht]; simp), ht]⟩
                      clear hx hk0 h59 hnum hdig hn6 hdl hcl hat h1 h1d hp0 hpl hvr
                      go_wp2_with fail
                      refine ch.mono ?_
                      rintro e w1 ⟨rfl, rfl⟩
                      go_wp2_with fail
                      refine cv.mono ?_
                      rintro e w1 ⟨rfl, rfl⟩
                      go_wp2
                      refine bodyPost_ret (v := .tuple #[.int .i32 ((0 : Nat) : Int), .int .i64 (p : Int), .int .i64 ((4 : Nat) : Int)]) ?_ rfl ⟨0, p, 4, rfl, Below.refl _ _, hbad⟩
                      simp [results, Tryd.results35, go_sem]
                    | true =>
                      have cv := validRune_w (num : Int) wr
                      rw [show Lib.validRune (num : Int) = true from hvr] at cv
                      have hokn : okR num := by
                        unfold vR Lib.validRune at hvr
                        simp at hvr; unfold okR; omega
                      have hgood : EscSpec X at0 num (p + 1) 0 := Or.inl ⟨rfl, hokn, by omega, by omega, fun out n0 d0 hl => ⟨num, dig, by
                          rw [hH.out, drop_at hd]
                          exact runQ_step 255 2 out num dig d _ 0 (out ++ [num]) num dig (by omega) (by
                            unfold takeQ numQ; rw [if_neg (by omega), if_pos rfl, if_pos h59, if_neg (by simp [hk0, hvr]), addQ_ok _ _ _ _ _ hl])⟩, fun out n0 d0 hl => by
                          have ht : takeQ 255 2 out num dig d = (3, 0, out, num, dig) := by
                            unfold takeQ numQ; rw [if_neg (by omega), if_pos rfl, if_pos h59, if_neg (by simp [hk0, hvr])]; unfold addQ; rw [if_pos hl]
                          rw [hH.out, drop_at hd, runQ_bad 255 2 out num dig d _ (by omega) (by rw [ht]; simp), ht]⟩
                      clear hx hk0 h59 hnum hdig hn6 hdl hcl hat h1 h1d hp0 hpl hvr
                      go_wp2_with fail
                      refine ch.mono ?_
                      rintro e w1 ⟨rfl, rfl⟩
                      go_wp2_with fail
                      refine cv.mono ?_
                      rintro e w1 ⟨rfl, rfl⟩
                      go_wp2
                      refine bodyPost_ret (v := .tuple #[.int .i32 (num : Int), .int .i64 ((p + 1 : Nat) : Int), .int .i64 ((0 : Nat) : Int)]) ?_ rfl ⟨num, p + 1, 0, rfl, Below.refl _ _, hgood⟩
                      simp [results, Tryd.results35, go_sem]
                  · have d59 : ¬ (d : Int) = 59 := by omega
                    have hbad : EscSpec X at0 0 p 4 := Or.inr ⟨by decide, fun out n0 d0 => by
                      have ht : takeQ 255 2 out num dig d = (4, 2, out, num, dig) := by
                        unfold takeQ numQ; rw [if_neg (by omega), if_pos rfl, if_neg h59, if_pos (Or.inl hx)]
                      rw [hH.out, drop_at hd, runQ_bad 255 2 out num dig d _ (by omega) (by rw [ht]; simp), ht]⟩
                    clear hx hk0 h59 hw32 hnum hdig hn6 hdl hcl hlen hat h1 h1d hp0 hpl
                    go_wp2_with fail
                    refine ch.mono ?_
                    rintro e w1 ⟨rfl, rfl⟩
                    go_wp2
                    refine bodyPost_ret (v := .tuple #[.int .i32 ((0 : Nat) : Int), .int .i64 (p : Int), .int .i64 ((4 : Nat) : Int)]) ?_ rfl ⟨0, p, 4, rfl, Below.refl _ _, hbad⟩
                    simp [results, Tryd.results35, go_sem]
              · rw [if_neg hx] at ch
                have hd16 : digV d < 16 := by have := digV_le d; omega
                have h59 : d ≠ 59 := fun e => hx (by rw [e]; decide)
                obtain ⟨v, hv⟩ : ∃ v, digV d = v := ⟨_, rfl⟩
                by_cases h6 : dig = 6
                · have hbad : EscSpec X at0 0 p 4 := Or.inr ⟨by decide, fun out n0 d0 => by
                    have ht : takeQ 255 2 out num dig d = (4, 2, out, num, dig) := by
                      unfold takeQ numQ; rw [if_neg (by omega), if_pos rfl, if_neg h59, if_pos (Or.inr h6)]
                    rw [hH.out, drop_at hd, runQ_bad 255 2 out num dig d _ (by omega) (by rw [ht]; simp), ht]⟩
                  rw [hv] at ch hd16
                  have h6z : (6 : Int) < (dig : Int) + 1 := by omega
                  clear hx h6
                  go_wp2_with fail
                  refine ch.mono ?_
                  rintro e w1 ⟨rfl, rfl⟩
                  go_wp2_with fail
                  refine ch.mono ?_
                  rintro e w1 ⟨rfl, rfl⟩
                  go_wp2
                  refine bodyPost_ret (v := .tuple #[.int .i32 ((0 : Nat) : Int), .int .i64 (p : Int), .int .i64 ((4 : Nat) : Int)]) ?_ rfl ⟨0, p, 4, rfl, Below.refl _ _, hbad⟩
                  simp [results, Tryd.results35, go_sem]
                · have hstep : Hid (∀ out n0 d0, runQ 255 1 out n0 d0 (X.drop at0) = runQ 255 2 out (num * 16 + v) (dig + 1) (X.drop (p + 1))) := hid (fun out n0 d0 => by
                    rw [hH.out, drop_at hd]
                    exact runQ_step 255 2 out num dig d _ 2 out (num * 16 + v) (dig + 1) (by omega) (by
                      unfold takeQ numQ; rw [if_neg (by omega), if_pos rfl, if_neg h59, if_neg (by simp [hx, h6]), hv]))
                  rw [hv] at ch hd16
                  have hpow : num * 16 + v < 16 ^ (dig + 1) := by rw [Nat.pow_succ]; omega
                  have h6z : ¬ (6 : Int) < (dig : Int) + 1 := by omega
                  clear hx
                  go_wp2_with fail
                  refine ch.mono ?_
                  rintro e w1 ⟨rfl, rfl⟩
                  go_wp2_with fail
                  refine ch.mono ?_
                  rintro e w1 ⟨rfl, rfl⟩
                  go_wp2
                  go_roundw
                  case rel => exact ⟨p + 1, num * 16 + v, dig + 1, by go_num, by (congr 1; omega), by go_num, trivial, by omega, by omega, hpow, by omega, hid hstep.out⟩
                  case measure => (simp [intOf]; try omega)
            · have hpz : ¬ (p : Int) < (X.length : Int) := by omega
              have hpz2 : (X.length : Int) ≤ (p : Int) := by omega
              have hbad : EscSpec X at0 0 p 2 := Or.inr ⟨by decide, fun out n0 d0 => by
                rw [hH.out, List.drop_eq_nil_of_le (by omega)]; rfl⟩
              go_wp2
              refine bodyPost_ret (v := .tuple #[.int .i32 ((0 : Nat) : Int), .int .i64 (p : Int), .int .i64 ((2 : Nat) : Int)]) ?_ rfl ⟨0, p, 2, rfl, Below.refl _ _, hbad⟩
              simp [results, Tryd.results35, go_sem]
        · have a4 : ((c : Int) == 120) = false := by simp; omega
          have hbad : EscSpec X at0 0 at0 4 := Or.inr ⟨by decide, fun out num dig => by
            have ht : takeQ 255 1 out num dig c = (4, 1, out, num, dig) := by
              unfold takeQ escQ; rw [if_pos rfl, if_neg c1, if_neg c2, if_neg c3]
            rw [drop_at hc, runQ_bad 255 1 out num dig c _ (by omega) (by rw [ht]; simp), ht]⟩
          go_enter Tryd.func35, Tryd.ntmps35
          go_wp2
          refine bodyPost_ret (v := .tuple #[.int .i32 ((0 : Nat) : Int), .int .i64 (at0 : Int), .int .i64 ((4 : Nat) : Int)]) ?_ rfl ⟨0, at0, 4, rfl, Below.refl _ _, hbad⟩
          simp [results, Tryd.results35, go_sem]
  · have h1z : (X.length : Int) ≤ (at0 : Int) := by omega
    have hbad : EscSpec X at0 0 at0 2 := Or.inr ⟨by decide, fun out num dig => by rw [List.drop_eq_nil_of_le (by omega)]; rfl⟩
    go_enter Tryd.func35, Tryd.ntmps35
    go_wp2
    refine bodyPost_ret (v := .tuple #[.int .i32 ((0 : Nat) : Int), .int .i64 (at0 : Int), .int .i64 ((2 : Nat) : Int)]) ?_ rfl ⟨0, at0, 2, rfl, Below.refl _ _, hbad⟩
    simp [results, Tryd.results35, go_sem]
end Go.Proofs.YtppfgcbigohkkaaDoor
