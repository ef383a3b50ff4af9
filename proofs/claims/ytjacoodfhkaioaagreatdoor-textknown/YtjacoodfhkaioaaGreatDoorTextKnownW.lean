/- TextKnown, walked. -/
import Derived.Test.YtjacoodfhkaioaaGreatDoorChU
namespace Go.Proofs.YtjacoodfhkaioaaGreatDoor.textKnown
open Go.ChangeShapes Go.WideShapes Go.ChangeAt Go.ChangeMaps Go.RowKit Go.Shelf
set_option linter.unusedSimpArgs false
set_option linter.unusedVariables false
set_option maxRecDepth 2000
abbrev Tabs (w : World) : Prop := TabX w
abbrev k1 : List UInt8 := [123, 111, 107, 44, 91, 49, 44, 60, 51, 62, 124, 35, 52, 93, 44, 60, 60, 49, 44, 50, 62, 62, 125]
abbrev k1T : Tm := tupT [atomT akO, consT (intT 1) (consT (numT 3 3) (numT 2 4)), binT [1, 2]]
theorem kn1 : paE k1 = 0 := by kernel_rfl
theorem kn2 : paT k1 = some k1T := by kernel_rfl
abbrev bads : List (List UInt8) := [[], [48, 49], [45, 48], [91, 97, 124, 91, 98, 93, 93], [39, 97, 39], [123, 97, 44, 125], [60, 60, 50, 53, 54, 62, 62], [91, 97], [60, 49], [35, 32, 49], [97, 32, 98], [91, 124, 97, 93], [39, 92, 120, 48, 52, 49, 59, 39], [39, 92, 120, 49, 70, 59, 39], [65]]
theorem kn3 : bads.map paE = [10, 10, 10, 10, 10, 10, 10, 10, 10, 10, 10, 10, 10, 10, 10] := by kernel_rfl
theorem kn4 : rdE [91, 93, 120] = 0 := by kernel_rfl
theorem kn5 : rdN [91, 93, 120] = 2 := by kernel_rfl
theorem bad_at {i : Nat} {b : List UInt8} (h : bads[i]? = some b) : paE b = 10 ∧ b.length ≤ 1000 := by
  have hb := List.mem_of_getElem? h
  have h2 : paE b ∈ bads.map paE := List.mem_map_of_mem hb
  rw [kn3] at h2
  refine ⟨by simpa using h2, ?_⟩
  have : ∀ x ∈ bads, x.length ≤ 1000 := by decide
  exact this b hb
theorem bads_len : bads.length = 15 := rfl
abbrev badC : List Value := bads.map fun b => Value.string (bs b)
set_option maxHeartbeats 8000000 in
theorem walk {H : Type} (enc : TypeId × Value → H) (base : Nat) (w : World)
    (hT : Tabs w) :
    Calls Tryz.prog 3 #[] w fun e w' => e = .returned (.bool true) ∧ Below w.heap.size w w' := by
  have hTH := hid hT
  go_enter Tryz.func3, Tryz.ntmps3
  go_wp2_with fail
  refine (awake_ok w hT).mono ?_
  rintro e w1 ⟨rfl, b1⟩
  have c1 := Parse_w k1 w1 (hT.below b1) (by decide)
  rw [kn1, kn2, show bs k1 = ⟨#[123, 111, 107, 44, 91, 49, 44, 60, 51, 62, 124, 35, 52, 93, 44, 60, 60, 49, 44, 50, 62, 62, 125]⟩ from rfl] at c1
  have b1H := hid b1
  clear hT b1
  go_wp2_with fail
  refine c1.mono ?_
  rintro e w2 ⟨v2, rfl, hV2, b2⟩
  have hV2' : TV (ZnS w1.heap.size w2) w2 k1T v2 := hV2
  have bw2 := hid (below_and b1H.out (Nat.le_refl _) b2)
  unfold k1T tupT TV at hV2'
  obtain ⟨od, cd, ol, cl, ob, cb, rfl, _⟩ := hV2'
  simp only [List.length_cons, List.length_nil, Nat.zero_add, Nat.reduceAdd]
  obtain ⟨W3, hW3⟩ : ∃ W3, W3 = w2.alloc (.cells #[.int .i64 4, .bool false, .slice od 0 cd, .string noS, .int .i64 0, .slice ol 3 cl, .slice ob 0 cb] 27) := ⟨_, rfl⟩
  have b3 : Below w2.heap.size w2 W3 := by rw [hW3]; exact (Below.refl _ w2).alloc (Nat.le_refl _) _
  have hg3 : W3.heap[w2.heap.size]? = some (.cells #[.int .i64 4, .bool false, .slice od 0 cd, .string noS, .int .i64 0, .slice ol 3 cl, .slice ob 0 cb] 27 (0, 0)) := by rw [hW3]; exact heap_alloc_new w2 _
  obtain ⟨x0, x1, x2, x3, x4, x5, x6⟩ := cell7 hg3
  have bw3 := hid (below_and bw2.out (Nat.le_refl _) b3)
  have hW3H := hid hW3
  clear hV2 c1 b2 b3 hg3 hW3
  go_upto_region 4 with fail
  rw [← hW3H.out]
  clear hW3H
  go_upto_region 7 with fail
  generalize hW4 : World.alloc W3 _ = W4
  have b4 : Below W3.heap.size W3 W4 := by rw [← hW4]; exact (Below.refl _ W3).alloc (Nat.le_refl _) _
  have hg4 : W4.heap[W3.heap.size]? = some (.cells badC.toArray 9 (0, 0)) := by rw [← hW4]; exact heap_alloc_new W3 _
  have hcell : Hid (∀ (i : Nat) (b : List UInt8), bads[i]? = some b → W4.cell? ⟨W3.heap.size, i, none⟩ = some (.string (bs b))) := hid (fun i b hb => by
    have : badC[i]? = some (.string (bs b)) := by rw [List.getElem?_map, hb]; rfl
    simp only [World.cell?, hg4, List.getElem?_toArray]
    exact this)
  have bw4 := hid (below_and bw3.out (Nat.le_refl _) b4)
  have hW3s := hid (Array.getElem?_eq_some_iff.1 hg4).1
  clear hW4 b4 hg4 x0 x1 x2 x3 x4 x5 x6
  go_wp2_with fail
  go_loopg [4] 15 (fun t v4 wr => ∃ i : Nat, t + i = 15 ∧ v4 = .int .i64 (i : Int) ∧ Hid (Below W4.heap.size W4 wr))
  case atStart => exact ⟨0, by omega, rfl, hid (Below.refl _ _)⟩
  case round =>
    obtain ⟨i, hti, rfl, hbr⟩ := hrel
    have bwr := hid (below_and bw4.out (Nat.le_refl _) hbr.out)
    by_cases hi : i < 15
    · have hii : (i : Int) < 15 := by omega
      obtain ⟨b, hb⟩ : ∃ b, bads[i]? = some b := ⟨bads[i]'(by rw [bads_len]; exact hi), by simp⟩
      obtain ⟨hp, hl⟩ := bad_at hb
      have y0 := (hbr.out.cell hW3s.out).trans (hcell.out i b hb)
      have c2 := Parse_w b wr (hTH.out.below bwr.out) (by omega)
      have hn : paT b = none := by unfold paT; rw [hp]; rfl
      rw [hp, hn] at c2
      obtain ⟨S, hS⟩ : ∃ S, bs b = S := ⟨_, rfl⟩
      rw [hS] at c2 y0
      clear hb hp hl hn hS
      go_wp2_with fail
      refine c2.mono ?_
      rintro e w5 ⟨v5, rfl, hV5, b5⟩
      have hV5' : v5 = zV := hV5
      subst hV5'
      have hb5 := hid (below_and hbr.out (Nat.le_refl _) ((below_and (Below.refl _ wr) (Nat.le_refl _) b5).alloc b5.size (.cells #[.int .i64 0, .bool false, .slice none 0 0, .string ⟨#[]⟩, .int .i64 0, .slice none 0 0, .slice none 0 0] 27)))
      clear c2 b5 hV5 y0
      go_wp2
      go_roundg (14 - i)
      case measure => omega
      case rel => exact ⟨i + 1, by omega, by go_num, hb5⟩
    · have hi2 : i = 15 := by omega
      subst hi2
      have c3 := Read_w [91, 93, 120] wr (hTH.out.below bwr.out) (by decide)
      rw [kn4, kn5, show bs [91, 93, 120] = ⟨#[91, 93, 120]⟩ from rfl] at c3
      clear hi
      go_wp2_with fail
      refine c3.mono ?_
      rintro e w6 ⟨v6, rfl, hV6, b6⟩
      obtain ⟨k, neg, od, ld, cd, nm, n, ol, ll, cl, ob, lb, cb, rfl⟩ := tmo_form hV6
      have hb6 := hid ((below_and bwr.out (Nat.le_refl _) b6).alloc (below_and bwr.out (Nat.le_refl _) b6).size (.cells #[.int .i64 k, .bool neg, .slice od ld cd, .string nm, .int .i64 n, .slice ol ll cl, .slice ob lb cb] 27))
      clear c3 hV6 b6
      go_wp2
      go_ret
      exact ⟨rfl, hb6.out⟩
end Go.Proofs.YtjacoodfhkaioaaGreatDoor.textKnown
