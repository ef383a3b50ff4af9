/- TextPrints, walked. -/
import Derived.Test.YtjacoodfhkaioaaGreatDoorChU
import Derived.Test.YtjacoodfhkaioaaGreatDoorChV
import Derived.Test.YtjacoodfhkaioaaGreatDoorChT
import Derived.Test.YtjacoodfhkaioaaGreatDoorChI
import Derived.Test.YtjacoodfhkaioaaGreatDoorChK
namespace Go.Proofs.YtjacoodfhkaioaaGreatDoor.textPrints
open Go.ChangeShapes Go.WideShapes Go.ChangeAt Go.ChangeMaps Go.RowKit Go.Shelf
set_option linter.unusedSimpArgs false
set_option linter.unusedVariables false
set_option maxRecDepth 2000
abbrev Tabs (w : World) : Prop := TabX w
set_option maxHeartbeats 4000000 in
set_option maxRecDepth 4000 in
theorem walk {H : Type} (enc : TypeId × Value → H) (base : Nat) (w : World) (v0 : Value) (d0 : DataW H) (p0 : List MemPlace)
    (o0 : Value.okWide Tryz.prog w .any base 27 v0) (h0 : DataW.Trod enc Tryz.prog w 0 (fun _ => true) true 27 v0 d0 p0)
    (hT : Tabs w) :
    Calls Tryz.prog 4 #[v0] w fun e w' => e = .returned (.bool true) ∧ Below w.heap.size w w' := by
  obtain ⟨T, hT0⟩ := open_term o0 h0
  clear o0 h0
  obtain ⟨k, neg, od, ld, cd, nm, n, ol, ll, cl, ob, lb, cb, rfl⟩ := hT0.form
  obtain ⟨kX, hBX, hz0⟩ := bx1 w (.int .i64 k) (.bool neg) (.slice od ld cd) (.string nm) (.int .i64 n) (.slice ol ll cl) (.slice ob lb cb) 27
  go_enter Tryz.func4, Tryz.ntmps4
  go_wp2_with fail
  generalize (w.alloc (.cells #[.int .i64 k, .bool neg, .slice od ld cd, .string nm, .int .i64 n, .slice ol ll cl, .slice ob lb cb] 27)) = W0 at *
  refine (awake_ok _ (hT.below hBX)).mono ?_
  rintro e w1 ⟨rfl, b1⟩
  have hB1 := below_and hBX (Nat.le_refl _) b1
  obtain ⟨x0, x1, x2, x3, x4, x5, x6⟩ := (kX.below b1).res
  have kX1 := kX.below b1
  clear hBX kX b1
  go_wp2_with fail
  refine (Room_w 60 (by omega) (tsz T) T _ 10 _ (Nat.le_refl _) (by omega) (by omega) (tv_below hT0 hB1)).mono ?_
  rintro e W8 ⟨rfl, b2⟩
  have hB2 := below_and hB1 (Nat.le_refl _) b2
  have kX2 := kX1.below b2
  have hTV2 := tv_below hT0 hB2
  clear x0 x1 x2 x3 x4 x5 x6 kX1 hB1 b2
  obtain ⟨bb, hbb⟩ : ∃ bb, roomB 60 10 T = bb := ⟨_, rfl⟩
  rw [hbb]
  cases bb with
  | false =>
    clear hbb
    go_wp2
    go_ret
    exact ⟨rfl, hB2⟩
  | true =>
  obtain ⟨hok, hdep⟩ := room_ok (by omega) T _ 10 hT0 hbb
  have hTX := hT.below hB2
  have c1 := print_w T _ W8 (by omega) hok hTV2 hTX.1.1 hTX.1 hTX.2
  have c2 := fun w' (hb : Below W8.heap.size W8 w') => rprint_w T _ w' hok (tv_below hTV2 hb) (hTX.below hb).1.1 (hTX.below hb).1
  obtain ⟨E, hE⟩ : ∃ E, prE T = E := ⟨_, rfl⟩
  obtain ⟨S, hS⟩ : ∃ S : ByteArray, ⟨(prS T).toArray⟩ = S := ⟨_, rfl⟩
  rw [hE, hS] at c1 c2
  obtain ⟨x0, x1, x2, x3, x4, x5, x6⟩ := kX2.res
  have kXH := hid kX2
  have hB2H := hid hB2
  clear hE hS hbb hok hdep hTX hT hT0 hTV2 hz0 kX2 hB2
  go_wp2_with fail
  refine c1.mono ?_
  rintro e w3 ⟨rfl, b3⟩
  have k3 := kXH.out.below b3
  clear x0 x1 x2 x3 x4 x5 x6
  obtain ⟨x0, x1, x2, x3, x4, x5, x6⟩ := k3.res
  clear k3
  go_wp2_with fail
  refine (c2 w3 b3).mono ?_
  rintro e w4 ⟨rfl, b4⟩
  have hbw := hid (below_and hB2H.out (Nat.le_refl _) (below_and b3 (Nat.le_refl _) b4))
  clear c1 c2
  go_wp2
  all_goals go_ret
  all_goals exact ⟨rfl, hbw.out⟩
end Go.Proofs.YtjacoodfhkaioaaGreatDoor.textPrints
