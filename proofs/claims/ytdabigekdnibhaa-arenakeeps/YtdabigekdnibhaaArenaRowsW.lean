/- ArenaRows, walked: whatever words there are, it answers true. -/
import Derived.Test.YtdabigekdnibhaaArenaOpen
namespace Go.Proofs.Ytdabigekdnibhaa.arenaRows
open Go.ChangeShapes Go.WideShapes Go.ChangeAt Go.ChangeMaps Go.RowKit
set_option linter.unusedSimpArgs false
set_option linter.unusedVariables false
set_option maxRecDepth 2000
theorem ob_len (l : List Int) : ∀ (n k : Nat) (ps : List Nat), l.length - k ≤ n → ob l k = some ps → ps.length ≤ l.length - k := by
  intro n
  induction n with
  | zero =>
    intro k ps hn h
    rw [ob, if_neg (by omega)] at h
    split at h
    · injection h with h; subst h; simp
    · cases h
  | succ n ih =>
    intro k ps hn h
    rw [ob] at h
    split at h
    · rename_i hk
      split at h
      · obtain ⟨qs, hq, rfl⟩ := Option.map_eq_some_iff.1 h
        have := ih _ qs (by omega) hq
        simp; omega
      · cases h
    · split at h
      · injection h with h; subst h; simp
      · cases h
theorem ob_getD (l : List Int) : ((ob l 0).getD []).length ≤ l.length := by
  cases h : ob l 0 with
  | none => simp
  | some ps => have := ob_len l l.length 0 ps (by omega) h; simpa using this
set_option maxRecDepth 4000 in
set_option maxHeartbeats 4000000 in
theorem walk {H : Type} (enc : TypeId × Value → H) (base : Nat) (w : World) (v0 : Value) (d0 : DataW H) (p0 : List MemPlace)
    (o0 : Value.okWide Try.prog w .any base 35 v0) (h0 : DataW.Trod enc Try.prog w 0 (fun _ => true) true 35 v0 d0 p0) :
    Calls Try.prog 5 #[v0] w fun e w' => e = .returned (.bool true) ∧ Below w.heap.size w w' := by
  obtain ⟨o, l, c, rfl, hL, hlc, hwf⟩ := open_words o0 h0
  clear o0 h0
  go_enter Try.func5, Try.ntmps5
  go_wp2_with fail
  refine (awake_w w).mono ?_
  rintro e wa ⟨rfl, ba⟩
  by_cases hl : l.length ≤ 500
  · have hlz : ¬ (500 : Int) < (l.length : Int) := by omega
    have hLa := hL.below ba
    have c1 := fill_w o l c 3 wa hLa (by omega)
    go_wp2_with fail
    refine c1.mono ?_
    rintro e w1 ⟨g, rfl, F, hA, hF, b1⟩
    have c2 := objects_w g F l (l.length + 3) w1 hA hwf
    clear c1
    go_wp2_with fail
    refine c2.mono ?_
    rintro e w2 ⟨v2, rfl, hR2, b2⟩
    have c3 := mem_w o l c 3 w2 (hLa.below (b1.trans (below_le b2 b1.size))) (by omega)
    clear c2
    go_wp2_with fail
    refine c3.mono ?_
    rintro e w3 ⟨g3, rfl, F3, hM, hF3, b3⟩
    have c4 := robjects_w g3 F3 l (l.length + 3) w3 hM hwf
    clear c3
    go_wp2_with fail
    refine c4.mono ?_
    rintro e w4 ⟨v4, rfl, hR4, b4⟩
    have b23 : Below w2.heap.size w2 w4 := b3.trans (below_le b4 b3.size)
    have b14 : Below w1.heap.size w1 w4 := b2.trans (below_le b23 b2.size)
    have ba4 : Below wa.heap.size wa w4 := b1.trans (below_le b14 b1.size)
    have hA4 := hA.below b14
    have hR24 := hR2.below b23
    have hL4 := hLa.below ba4
    clear c4 hR2 hM hA b2 b3 b4
    obtain ⟨R, hR⟩ : ∃ R, ob l 0 = R := ⟨_, rfl⟩
    rw [hR] at hR24 hR4
    rw [hR]
    have hps := ob_getD l
    rw [hR] at hps
    obtain ⟨o2, k2, rfl, _, hL2⟩ := hR24.shape
    obtain ⟨o4, k4, rfl, _, hL4'⟩ := hR4.shape
    have c5 := ints_w o2 o4 (R.getD []) (R.getD []) k2 k4 w4 hL2 hL4' (by omega)
    have hd : decide (R.getD [] = R.getD []) = true := by simp
    rw [hd] at c5
    have hb : (R.isSome == R.isSome) = true := by simp
    clear hR hd hps hL2 hL4' hR24 hR4
    generalize R.getD [] = P at *
    generalize R.isSome = B at *
    go_wp2_with fail
    refine c5.mono ?_
    rintro e w5 ⟨rfl, b5⟩
    have c6 := words_w g F l (l.length + 3) w5 (hA4.below b5)
    clear c5
    go_wp2_with fail
    refine c6.mono ?_
    rintro e w6 ⟨b, rfl, hbb, hB6, b6⟩
    have ba6 : Below w4.heap.size w4 w6 := b5.trans (below_le b6 b5.size)
    have c7 := sameWords_w (some ⟨b, 0, none⟩) o l l l.length c w6 (Blk.lies (r := []) (by simpa using hB6)) (hL4.below ba6) (by omega)
    rw [show decide (l = l) = true from by simp] at c7
    clear c6 hB6
    go_wp2_with fail
    refine c7.mono ?_
    rintro e w7 ⟨rfl, b7⟩
    go_wp2
    go_ret
    have s4 := ba4.size
    have s6 := ba6.size
    exact ⟨rfl, ((ba.trans (below_le ba4 ba.size)).trans (below_le ba6 (by have := ba.size; omega))).trans (below_le b7 (by have := ba.size; omega))⟩
  · have hlz : (500 : Int) < (l.length : Int) := by omega
    go_wp2
    go_ret
    exact ⟨rfl, ba⟩
end Go.Proofs.Ytdabigekdnibhaa.arenaRows
