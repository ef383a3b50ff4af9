/- ArenaKnown, walked. -/
import Derived.Test.YtdabigekdnibhaaArenaRowsW
namespace Go.Proofs.Ytdabigekdnibhaa.arenaKnown
open Go.ChangeShapes Go.WideShapes Go.ChangeAt Go.ChangeMaps Go.RowKit
set_option linter.unusedSimpArgs false
set_option linter.unusedVariables false
set_option maxRecDepth 2000
theorem m1 : makeV 0 2 3 false = 402653446 := by decide +kernel
theorem m2 : makeV 1 0 1 false = 134217750 := by decide +kernel
theorem v1 : isV 402653446 = true := by decide +kernel
theorem v2 : isV 134217750 = true := by decide +kernel
theorem s1 : rs 402653446 = ((2 : Nat) : Int) := by decide +kernel
theorem s2 : rs 134217750 = ((0 : Nat) : Int) := by decide +kernel
theorem ob1 : ob [402653446, 0, 0, 134217750] 0 = some [0, 3] := by
  rw [ob_yes (r := 2) rfl v1 s1, ob_yes (r := 0) rfl v2 s2]
  have : ob [402653446, 0, 0, 134217750] (0 + 1 + 2 + 1 + 0) = some [] := ob_end (l := [402653446, 0, 0, 134217750])
  rw [this]; rfl
theorem ob2 : ob [402653446, 0] 0 = none := by
  rw [ob_yes (r := 2) rfl v1 s1, ob_past (by decide)]; rfl
theorem wf1 : ∀ x ∈ [402653446, 0, 0, 134217750], (Lit.int .u64 x).wf = true := by decide
theorem wf2 : ∀ x ∈ [402653446, 0], (Lit.int .u64 x).wf = true := by decide
theorem new_words (w : World) (l : List Int) : LiesW (some ⟨w.heap.size, 0, none⟩) l (w.alloc (.cells (ws l).toArray 28)) := by
  intro j x hx
  refine ⟨_, rfl, ?_⟩
  rw [addr_add, Nat.zero_add, World.cell?_alloc_mark]
  simp [ws, hx]
theorem new_ints (w : World) (l : List Nat) : LiesI (some ⟨w.heap.size, 0, none⟩) l (w.alloc (.cells (l.map fun (x : Nat) => Value.int .i64 (x : Int)).toArray 3)) := by
  intro j x hx
  refine ⟨_, rfl, ?_⟩
  rw [addr_add, Nat.zero_add, World.cell?_alloc_mark]
  simp [hx]
set_option maxRecDepth 4000 in
set_option maxHeartbeats 4000000 in
theorem walk {H : Type} (enc : TypeId × Value → H) (base : Nat) (w : World) :
    Calls Try.prog 3 #[] w fun e w' => e = .returned (.bool true) ∧ Below w.heap.size w w' := by
  go_enter Try.func3, Try.ntmps3
  go_wp2_with fail
  refine (awake_w w).mono ?_
  rintro e wa ⟨rfl, ba⟩
  have c1 := new_w 4 wa
  rw [show newN 4 = 4 from by decide] at c1
  go_wp2_with fail
  refine c1.mono ?_
  rintro e w1 ⟨g, rfl, F, hA, hF, hb⟩
  have c2 := take_w g F [] 4 3 w1 hA
  rw [show takeV [] 4 3 = 0 from by decide, show takeB [] 4 3 = true from by decide, show takeL [] 4 3 = [0, 0, 0] from by decide] at c2
  clear c1 hA
  go_wp2_with fail
  refine c2.mono ?_
  rintro e w2 ⟨rfl, hA, hK⟩
  have b2 : Below wa.heap.size wa w2 := hb.trans (hK.below hb.size hF)
  have c3 := get_w g F [0, 0, 0] 4 3 w2 hA
  rw [show getV [0, 0, 0] 3 = 0 from by decide, show inB [0, 0, 0] 3 = false from by decide] at c3
  clear c2 hA hb hK
  go_wp2_with fail
  refine c3.mono ?_
  rintro e w3 ⟨rfl, rfl⟩
  have b3 := ba.trans (below_le b2 ba.size)
  clear ba b2 c3
  have c4 := rmake_w 0 2 3 false w3
  rw [m1] at c4
  go_wp2_with fail
  refine c4.mono ?_
  rintro e w4 ⟨rfl, h4⟩
  have b4 : Below w.heap.size w w4 := by rw [h4]; exact b3.alloc b3.size _
  clear h4 c4
  have c5 := rmake_w 1 0 1 false w4
  rw [m2] at c5
  go_wp2_with fail
  refine c5.mono ?_
  rintro e w5 ⟨rfl, h5⟩
  have b5 : Below w.heap.size w w5 := by rw [h5]; exact b4.alloc b4.size _
  clear h5 c5 b3 b4
  have hL := new_words w5 [402653446, 0, 0, 134217750]
  obtain ⟨W, hW⟩ : ∃ W, W = w5.alloc (.cells (ws [402653446, 0, 0, 134217750]).toArray 28) := ⟨_, rfl⟩
  rw [← hW] at hL
  have b6 : Below w.heap.size w W := by rw [hW]; exact b5.alloc b5.size _
  have c6 := fill_w (some ⟨w5.heap.size, 0, none⟩) [402653446, 0, 0, 134217750] 4 0 W hL (by decide)
  rw [show ([402653446, 0, 0, 134217750] : List Int).length = 4 from rfl] at c6
  go_wp2_with fail
  rw [show ∀ a : Array Value, a = (ws [402653446, 0, 0, 134217750]).toArray → w5.alloc (.cells a 28) = W from fun a e => by rw [e, hW]] <;> try rfl
  refine c6.mono ?_
  rintro e w6 ⟨g6, rfl, F6, hA6, hF6, b7⟩
  have b8 : Below w.heap.size w w6 := b6.trans (below_le b7 b6.size)
  clear hL hW b5 b6 b7 c6
  have c7 := objects_w g6 F6 _ _ w6 hA6 wf1
  rw [ob1] at c7
  go_wp2_with fail
  refine c7.mono ?_
  rintro e w7 ⟨v7, rfl, hR7, b9⟩
  have b10 : Below w.heap.size w w7 := b8.trans (below_le b9 b8.size)
  clear c7 b8 b9 hA6
  have hL := new_words w7 [402653446, 0]
  obtain ⟨W2, hW⟩ : ∃ W, W = w7.alloc (.cells (ws [402653446, 0]).toArray 28) := ⟨_, rfl⟩
  rw [← hW] at hL
  have b11 : Below w7.heap.size w7 W2 := by rw [hW]; exact (Below.refl _ w7).alloc (Nat.le_refl _) _
  have c8 := fill_w (some ⟨w7.heap.size, 0, none⟩) [402653446, 0] 2 0 W2 hL (by decide)
  rw [show ([402653446, 0] : List Int).length = 2 from rfl] at c8
  go_wp2_with fail
  rw [show ∀ a : Array Value, a = (ws [402653446, 0]).toArray → w7.alloc (.cells a 28) = W2 from fun a e => by rw [e, hW]] <;> try rfl
  refine c8.mono ?_
  rintro e w8 ⟨g8, rfl, F8, hA8, hF8, b12⟩
  have b13 : Below w7.heap.size w7 w8 := b11.trans (below_le b12 b11.size)
  clear hL hW b11 b12 c8
  have c9 := objects_w g8 F8 _ _ w8 hA8 wf2
  rw [ob2] at c9
  go_wp2_with fail
  refine c9.mono ?_
  rintro e w9 ⟨v9, rfl, hR9, b14⟩
  have b15 : Below w7.heap.size w7 w9 := b13.trans (below_le b14 b13.size)
  have hR79 := hR7.below b15
  have b16 : Below w.heap.size w w9 := b10.trans (below_le b15 b10.size)
  clear c9 b10 b13 b14 b15 hA8 hR7
  obtain ⟨o7, k7, rfl, _, hL7⟩ := hR79.shape
  have hL3 := new_ints w9 [0, 3]
  obtain ⟨W3, hW⟩ : ∃ W, W = w9.alloc (.cells (([0, 3] : List Nat).map fun (x : Nat) => Value.int .i64 (x : Int)).toArray 3) := ⟨_, rfl⟩
  rw [← hW] at hL3
  have b17 : Below w9.heap.size w9 W3 := by rw [hW]; exact (Below.refl _ w9).alloc (Nat.le_refl _) _
  have c10 := ints_w o7 (some ⟨w9.heap.size, 0, none⟩) [0, 3] [0, 3] k7 2 W3 (LiesI.below hL7 b17) hL3 (by decide)
  rw [show decide (([0, 3] : List Nat) = [0, 3]) = true from by decide] at c10
  have b18 : Below w.heap.size w W3 := b16.trans (below_le b17 b16.size)
  clear hL7 hL3 hR79 hR9 b16 b17
  go_wp2_with fail
  rw [show ∀ a : Array Value, a = (([0, 3] : List Nat).map fun (x : Nat) => Value.int .i64 (x : Int)).toArray → w9.alloc (.cells a 3) = W3 from fun a e => by rw [e, hW]] <;> try rfl
  refine c10.mono ?_
  rintro e wb ⟨rfl, b19⟩
  have b20 : Below w.heap.size w wb := b18.trans (below_le b19 b18.size)
  clear c10 b18 b19 hW
  have c11 := new_w (-1) wb
  rw [show newN (-1) = 0 from by decide] at c11
  go_wp2_with fail
  refine c11.mono ?_
  rintro e wc ⟨gc, rfl, Fc, hAc, hFc, b21⟩
  have c12 := size_w gc Fc [] 0 wc hAc
  clear c11
  go_wp2_with fail
  refine c12.mono ?_
  rintro e wd ⟨rfl, rfl⟩
  go_wp2
  go_ret
  exact ⟨rfl, b20.trans (below_le b21 b20.size)⟩
end Go.Proofs.Ytdabigekdnibhaa.arenaKnown
