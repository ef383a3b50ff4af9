/- What TermMakes leans on. -/
import Derived.Test.YtgaecjocolihjabDoorTermLaid
import Derived.Test.YtgaecjocolihjabDoorTermRooms
import Derived.Test.YtgaecjocolihjabDoorRSame
import Derived.Test.YtgaecjocolihjabDoorCpyList
namespace Go.Proofs.YtgaecjocolihjabDoor
open Go.ChangeShapes Go.WideShapes Go.ChangeAt Go.ChangeMaps Go.RowKit Go.Shelf
set_option linter.unusedSimpArgs false
set_option linter.unusedVariables false
set_option maxHeartbeats 2000000 in
theorem List_nil (o : Option Addr) (c : Nat) (w : World) :
    Calls Tryd.prog 7 #[.slice o 0 c] w fun e w' => ∃ v', e = .returned v' ∧ TV (Zw w.heap.size w') w' (listT []) v' ∧ Below w.heap.size w w' := by
  obtain ⟨kX, hBX, hz0⟩ := bx1 w (.int .i64 0) (.bool false) nilS (.string noS) (.int .i64 0) nilS nilS 30
  go_enter Tryd.func7, Tryd.ntmps7
  go_wp2_with fail
  generalize (w.alloc (.cells #[.int .i64 0, .bool false, .slice none 0 0, .string { data := #[] }, .int .i64 0, .slice none 0 0, .slice none 0 0] 30)) = W0 at *
  refine (copies_nil _ _ _).mono ?_
  rintro e w1 ⟨o1, c1, rfl, b1⟩
  have hB1 := below_and hBX (Nat.le_refl _) b1
  have kX1 := kX.below b1
  have hz1 := b1.size
  go_wp2_with fail
  refine (Nil_w _).mono ?_
  rintro e w2 ⟨rfl, b2⟩
  have hB2 := below_and hB1 (Nat.le_refl _) b2
  have kX2 := kX1.below b2
  have hz2 := b2.size
  obtain ⟨kT, hBT, hzT⟩ := bx1 w2 (.int .i64 5) (.bool false) nilS (.string noS) (.int .i64 0) nilS nilS 30
  have hB3 := hB2.trans (below_le hBT (by omega))
  have kX3 := kX2.below hBT
  clear b1 b2 hBT hB1 hB2 kX1 kX2 kX hBX
  go_wp2_with fail
  generalize (w2.alloc (.cells #[.int .i64 5, .bool false, nilS, .string noS, .int .i64 0, nilS, nilS] 30)) = W3 at *
  go_loopg [5] 0 (fun t v5 wr => t = 0 ∧ v5 = .int .i64 (-1) ∧ wr = W3)
  case atStart => exact ⟨rfl, rfl, rfl⟩
  case round =>
    obtain ⟨rfl, rfl, rfl⟩ := hrel
    obtain ⟨y0, y1, y2, y3, y4, y5, y6⟩ := kT.res
    have hf9 := kX3.fr
    obtain ⟨x0, x1, x2, x3, x4, x5, x6⟩ := kX3.res
    have hput := kX3.put (b0 := .int .i64 5) (b1 := .bool false) (b2 := nilS) (b3 := .string noS) (b4 := .int .i64 0) (b5 := nilS) (b6 := nilS)
    have hon := only_put wr w.heap.size (.int .i64 5) (.bool false) nilS (.string noS) (.int .i64 0) nilS nilS
    obtain ⟨r0, r1, r2, r3, r4, r5, r6⟩ := hput.res
    have hBf := hB3.trans (hon.below (B := w.heap.size) (by omega))
    clear hput hB3 hon kX3
    go_wp2
    exact bodyPost_ret (v := tmV 5 false nilS noS 0 nilS nilS) (by simp [results, Tryd.results7, go_sem, r0, r1, r2, r3, r4, r5, r6]) rfl ⟨_, rfl, tv_flat 5 noS 0, hBf⟩
theorem List_any (ls : List Tm) (o : Option Addr) (c : Nat) (w : World) (hlen : (partsL ls).length ≤ 5000000) (hl : ls.length ≤ 500000) (hok : ∀ p ∈ partsL ls, p.ok1) (hT : TR (Low w) w ls o) :
    Calls Tryd.prog 7 #[.slice o ls.length c] w fun e w' => ∃ v', e = .returned v' ∧ TV (Zw w.heap.size w') w' (listT (cpL ls)) v' ∧ Below w.heap.size w w' := by
  by_cases hne : ls = []
  · subst hne; exact List_nil o c w
  · exact List_w ls o c w hne hlen hl hok hT
/-- what Rooms says of the terms of a row -/
theorem rooms_facts {w : World} {l : List Tm} {o : Option Addr} (hT : TR (Low w) w l o) (h : l.all okRow = true) :
    (∀ p ∈ partsL l, p.ok1 ∧ fairB p = true) ∧ depL l ≤ 9 ∧ ∀ t ∈ l, (parts t).length ≤ 65536 := by
  rw [List.all_eq_true] at h
  have h1 : ∀ t ∈ l, (∀ p ∈ parts t, p.ok1 ∧ fairB p = true) ∧ dep t ≤ 9 ∧ (parts t).length ≤ 65536 := fun t ht => by
    have h2 := h t ht
    unfold okRow at h2
    rw [Bool.and_eq_true] at h2
    obtain ⟨v, hv⟩ := hT.mem ht
    obtain ⟨g1, g2⟩ := room_ok (by omega) t v 8 hv h2.1
    obtain ⟨g3, g4⟩ := may_parts h2.2
    exact ⟨fun p hp => ⟨g1 p hp, g4 p hp⟩, by omega, g3⟩
  clear h hT
  refine ⟨?_, ?_, fun t ht => (h1 t ht).2.2⟩
  · intro p hp
    induction l with
    | nil => simp [partsL] at hp
    | cons t l ih =>
      simp only [partsL, List.mem_append] at hp
      rcases hp with hp | hp
      · exact (h1 t (by simp)).1 p hp
      · exact ih (fun t ht => h1 t (by simp [ht])) hp
  · induction l with
    | nil => simp [depL]
    | cons t l ih =>
      simp only [depL]
      have := (h1 t (by simp)).2.1
      have := ih (fun t ht => h1 t (by simp [ht]))
      omega
theorem cmpB_self : ∀ a : List UInt8, Lib.compareBytes a a = 0
  | [] => rfl
  | x :: xs => by
    unfold Lib.compareBytes
    simp [UInt8.lt_irrefl, cmpB_self xs]
theorem less_self (a : List UInt8) : lessZ a a = 0 := by
  unfold lessZ; split
  · exact lexZ_self _
  · exact cmpB_self _
mutual
theorem cT_refl : ∀ a : Tm, cT a a = 0
  | .mk k neg d nm n l b => by
    rw [cT, cz_self, lx_zero]
    by_cases h0 : k = 0
    · rw [if_pos h0, cz_self]
    rw [if_neg h0]
    by_cases h1 : k = 1
    · rw [if_pos h1, less_self]
    rw [if_neg h1]
    by_cases h2 : k = 2 ∨ k = 3
    · rw [if_pos h2, cz_self]
    rw [if_neg h2]
    by_cases h7 : k = 7
    · rw [if_pos h7, lexZ_self]
    rw [if_neg h7]
    by_cases h4 : k = 4 ∨ k = 6
    · rw [if_pos h4, cz_self, lx_zero, cR_refl l]
    rw [if_neg h4]
theorem cR_refl : ∀ l : List Tm, cR l l = 0
  | [] => cR_nil _
  | t :: l => by rw [cR_cons, cT_refl t, lx_zero, cR_refl l]
end
theorem sameL_refl : ∀ l : List Tm, sameL l l = true
  | [] => rfl
  | t :: l => by unfold sameL; rw [cT_refl t, sameL_refl l]; rfl
theorem ok_list {l : List Tm} (h : ∀ p ∈ partsL l, p.ok1) : ∀ p ∈ parts (listT l), p.ok1 := fun p hp => by
  rcases mem_list_parts l p hp with h1 | ⟨a, b, rfl⟩ | rfl
  · exact h p h1
  · exact ⟨by simp, by simp [ByteArray.size], by simp, by simp, Lm.nil _⟩
  · exact ⟨by simp, by simp [ByteArray.size], by simp, by simp, Lm.nil _⟩
theorem ok_tup {l : List Tm} (hl : l.length ≤ 1000000) (h : ∀ p ∈ partsL l, p.ok1) : ∀ p ∈ parts (tupT l), p.ok1 := fun p hp => by
  rw [parts_tup] at hp
  rcases List.mem_cons.1 hp with rfl | hp
  · exact ⟨by simp, by simp [ByteArray.size], hl, by simp, Lm.nil _⟩
  · exact h p hp
theorem ok_bin {b : List Nat} (hb : b.length ≤ 1000000) : ∀ p ∈ parts (binT b), p.ok1 := fun p hp => by
  rw [parts_bin] at hp
  simp only [List.mem_cons, List.not_mem_nil, or_false] at hp
  subst hp
  exact ⟨by simp, by simp [ByteArray.size], by simp, hb, Lm.nil _⟩
theorem open_bytes {H : Type} {enc : TypeId × Value → H} {base : Nat} {w : World} {v : Value} {d : DataW H} {p : List MemPlace} (o0 : Value.okWide Tryd.prog w Reach.any base 26 v) (h0 : DataW.Trod enc Tryd.prog w 0 (fun _ => true) true 26 v d p) :
    ∃ (o : Option Addr) (b : List Nat) (c : Nat), v = .slice o b.length c ∧ LsB (Low w) o b w ∧ b.length ≤ c := by
  obtain ⟨a, len, cap, rfl⟩ := okWide_slice Tryd.underlying26 o0
  obtain ⟨m, hm⟩ := h0
  have hm' : DataW.trod enc Tryd.prog w 0 (fun _ => true) true m 26 [.slice a len cap] = some (d, p) := hm
  obtain ⟨ob, zb, cb, e6, hcb, hzb⟩ := open_row Tryd.underlying26 Tryd.underlying5 c8 hm'
  obtain ⟨hLb, hMb⟩ := row_nat hzb wf8
  exact ⟨ob, zb.map Int.toNat, cb, by rw [List.length_map]; exact e6, ⟨hLb, hMb⟩, by simpa using hcb⟩
theorem itP_true {S : Nat} {its : List Tm} {e : Ending} {w' : World} (h : ItP S its true e w') : ∃ o c, e = .returned (.tuple #[.slice o its.length c, .bool true]) ∧ TR (Zw S w') w' (cpL its) o := by
  rcases h with ⟨_, h⟩ | ⟨h, _⟩
  · exact h
  · cases h
theorem sum_parts : ∀ (q : List Tm), (∀ t ∈ q, (parts t).length ≤ 65536) → (partsL q).length ≤ q.length * 65536
  | [], _ => by simp [partsL]
  | t :: q, hq => by
    have h1 := hq t (by simp)
    have h2 := sum_parts q (fun t ht => hq t (by simp [ht]))
    simp only [partsL, List.length_append, List.length_cons]; omega
end Go.Proofs.YtgaecjocolihjabDoor
