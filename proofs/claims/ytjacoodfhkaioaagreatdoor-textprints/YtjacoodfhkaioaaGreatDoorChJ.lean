/- Texts of mine, one behind the other: TermList, TermFacts, TermAwake, TermOf, TermRMay, TermRMay2, TermRMay3, TermRMay4, TermRMay5, TermRMay6. -/
import Derived.Test.YtjacoodfhkaioaaGreatDoorChI
import Derived.Test.YtjacoodfhkaioaaGreatDoorChD
namespace Go.Proofs.YtjacoodfhkaioaaGreatDoor
open Go.ChangeShapes Go.WideShapes Go.ChangeAt Go.RowKit Go.Shelf
set_option linter.unusedSimpArgs false
set_option linter.unusedVariables false
set_option maxRecDepth 2000
def nilT : Tm := .mk 5 false [] noS 0 [] []
def consT (a b : Tm) : Tm := .mk 6 false [] noS 0 [a, b] []
def listT : List Tm → Tm
  | [] => nilT
  | t :: l => consT t (listT l)
def ZL (S gt : Nat) (w : World) : Nat → Prop := fun k => Zw S w k ∧ k ≠ gt
/-- zones follow memory -/
theorem zl_mono {S gt : Nat} {w w' : World} (hb : ∀ k, S ≤ k → k < w.heap.size → k ≠ gt → w'.heap[k]? = w.heap[k]?) : ∀ k, k < w.heap.size → ZL S gt w k → ZL S gt w' k := fun k hk hz => ⟨⟨hz.1.1, fun j => (World.frozen?_of_block (a := ⟨k, j, none⟩) (hb k hz.1.1 hk hz.2)).trans (hz.1.2 j)⟩, hz.2⟩
theorem zl_tv {S gt : Nat} {w w' : World} {t : Tm} {v : Value} (h : TV (ZL S gt w) w t v) (hb : ∀ k, S ≤ k → k < w.heap.size → k ≠ gt → w'.heap[k]? = w.heap[k]?) : TV (ZL S gt w') w' t v := by
  have h1 : TV (fun k => ZL S gt w k ∧ k < w.heap.size) w t v := TV.mono (fun k hk hz => ⟨hz, hk⟩) _ _ h
  have h2 := TV.zs (w' := w') (fun k hk => hb k hk.1.1.1 hk.2 hk.1.2) _ _ h1
  exact TV.mono (fun k _ hz => zl_mono hb k hz.2 hz.1) _ _ h2
theorem zl_tr {S gt : Nat} {w w' : World} {l : List Tm} {o : Option Addr} (h : TR (ZL S gt w) w l o) (hb : ∀ k, S ≤ k → k < w.heap.size → k ≠ gt → w'.heap[k]? = w.heap[k]?) : TR (ZL S gt w') w' l o := by
  have h1 : TR (fun k => ZL S gt w k ∧ k < w.heap.size) w l o := TR.mono (fun k hk hz => ⟨hz, hk⟩) _ _ h
  have h2 := TR.zs (w' := w') (fun k hk => hb k hk.1.1.1 hk.2 hk.1.2) _ _ h1
  exact TR.mono (fun k _ hz => zl_mono hb k hz.2 hz.1) _ _ h2
/-- two terms in a row of two -/
theorem tr_two {Z : Nat → Prop} {w : World} {t t' : Tm} {k k' : Int} {neg neg' : Bool} {od od' : Option Addr} {ld cd ld' cd' : Nat} {nm nm' : ByteArray} {n n' : Int} {ol ol' : Option Addr} {ll cl ll' cl' : Nat} {ob ob' : Option Addr} {lb cb lb' cb' : Nat} {g : Nat}
    (h : TV Z w t (tmV k neg (.slice od ld cd) nm n (.slice ol ll cl) (.slice ob lb cb))) (h' : TV Z w t' (tmV k' neg' (.slice od' ld' cd') nm' n' (.slice ol' ll' cl') (.slice ob' lb' cb'))) {ty : TypeId}
    (hg : w.heap[g]? = some (.cells #[.int .i64 k, .bool neg, .slice od ld cd, .string nm, .int .i64 n, .slice ol ll cl, .slice ob lb cb, .int .i64 k', .bool neg', .slice od' ld' cd', .string nm', .int .i64 n', .slice ol' ll' cl', .slice ob' lb' cb'] ty (0, 0))) (hZ : Z g) :
    TR Z w [t, t'] (some ⟨g, 0, none⟩) := by
  have q : ∀ j, w.cell? ((⟨g, 0, none⟩ : Addr).add j) = (#[.int .i64 k, .bool neg, .slice od ld cd, .string nm, .int .i64 n, .slice ol ll cl, .slice ob lb cb, .int .i64 k', .bool neg', .slice od' ld' cd', .string nm', .int .i64 n', .slice ol' ll' cl', .slice ob' lb' cb'] : Array Value)[j]? := fun j => by
    rw [addr_add, Nat.zero_add]; simp [World.cell?, hg]
  have q7 : ∀ j, w.cell? (((⟨g, 0, none⟩ : Addr).add 7).add j) = (#[.int .i64 k, .bool neg, .slice od ld cd, .string nm, .int .i64 n, .slice ol ll cl, .slice ob lb cb, .int .i64 k', .bool neg', .slice od' ld' cd', .string nm', .int .i64 n', .slice ol' ll' cl', .slice ob' lb' cb'] : Array Value)[7 + j]? := fun j => by
    rw [add_add]; exact q _
  have q0 := q 0
  have q70 := q7 0
  rw [add_zero] at q0 q70
  unfold TR
  refine ⟨_, _, rfl, hZ, ⟨_, _, _, _, _, _, _, rfl, q0, q 1, q 2, q 3, q 4, q 5, q 6⟩, h, ?_⟩
  unfold TR
  exact ⟨_, _, rfl, by rw [block_add]; exact hZ, ⟨_, _, _, _, _, _, _, rfl, q70, q7 1, q7 2, q7 3, q7 4, q7 5, q7 6⟩, h', by unfold TR; trivial⟩
theorem drop_at {l : List Tm} {i : Nat} {t : Tm} (h : l[i]? = some t) : l.drop i = t :: l.drop (i + 1) := by
  obtain ⟨hi, he⟩ := List.getElem?_eq_some_iff.1 h
  rw [List.drop_eq_getElem_cons hi, he]
end Go.Proofs.YtjacoodfhkaioaaGreatDoor
namespace Go.Proofs.YtjacoodfhkaioaaGreatDoor
open Go.ChangeShapes Go.WideShapes Go.ChangeAt Go.RowKit Go.Shelf
set_option linter.unusedSimpArgs false
set_option linter.unusedVariables false
set_option maxRecDepth 2000
theorem sv_int (Z : Int) : sv (decide (Z < 0)) (gval 4294967296 (glim 4294967296 Z.natAbs)) = Z := by
  rw [gval_glim (by omega)]
  unfold sv
  by_cases hz : Z < 0
  · simp only [hz, decide_true, if_true]; omega
  · simp only [hz, decide_false, Bool.false_eq_true, if_false]; omega
theorem normB_int (Z : Int) : normB (decide (Z < 0)) (glim 4294967296 Z.natAbs) = true := by
  unfold normB
  rw [sv_int]
  simp
theorem prT_int (Z : Int) : prT (intT Z) = intT Z := by simp [intT, prT]
theorem prT_atom (nm : ByteArray) : prT (atomT nm) = atomT nm := by simp [atomT, prT]
theorem leanB_of {T : Tm} (h : prT T = T) : leanB T = true := by
  unfold leanB
  rw [h]
  cases T with | mk k neg d nm n l b =>
  simp [eqF]
theorem fairB_int (Z : Int) : fairB (intT Z) = decide ((glim 4294967296 Z.natAbs).length ≤ 64) := by
  unfold fairB
  rw [leanB_of (prT_int Z)]
  have h := normB_int Z
  unfold intT withinB
  simp only [if_true, h, Bool.and_true, Bool.true_and]
  apply decide_eq_decide.2
  omega
theorem parts_int (Z : Int) : parts (intT Z) = [intT Z] := by simp [intT, parts]
theorem dep_int (Z : Int) : dep (intT Z) = 0 := by simp [intT, dep]
theorem ok_int {Z : Int} (h : (glim 4294967296 Z.natAbs).length ≤ 1000000) : (intT Z).ok1 := ⟨h, by decide, by simp, by simp, lm_glim (by omega) _⟩
theorem room_int (Z : Int) : roomN (intT Z) = if smlB Z then 0 else 1 + (glim 4294967296 Z.natAbs).length := by
  unfold intT roomN
  simp only [if_true, sv_int]
theorem words_int (Z : Int) : wordsN (intT Z) = if smlB Z then 0 else 1 + (glim 4294967296 Z.natAbs).length := by
  unfold wordsN
  rw [parts_int]
  simp only [List.map_cons, List.map_nil, List.sum_cons, List.sum_nil, Nat.add_zero, room_int]
theorem may_int (Z : Int) : mayB (intT Z) = decide ((glim 4294967296 Z.natAbs).length ≤ 64) := by
  unfold mayB treeN
  rw [parts_int]
  simp [fairB_int]
theorem cpT_int (Z : Int) : cpT (intT Z) = intT Z := by simp [intT, cpT, prT]
theorem cpT_atom (nm : ByteArray) : cpT (atomT nm) = atomT nm := by simp [atomT, cpT, prT]
theorem parts_atom (nm : ByteArray) : parts (atomT nm) = [atomT nm] := by simp [atomT, parts]
theorem parts_nil : parts nilT = [nilT] := by simp [nilT, parts]
theorem parts_cons (a b : Tm) : parts (consT a b) = consT a b :: (parts a ++ parts b) := by simp [consT, parts, partsL]
theorem glim_one : glim 4294967296 1 = [1] := by rw [glim_pos (by omega) (by omega)]; simp [glim_zero]
abbrev sA : ByteArray := { data := #[97] }
def awT : Tm := listT [intT 1, atomT sA]
theorem aw_parts : parts awT = [consT (intT 1) (consT (atomT sA) nilT), intT 1, consT (atomT sA) nilT, atomT sA, nilT] := by
  simp only [awT, listT, parts_cons, parts_int, parts_atom, parts_nil, List.cons_append, List.nil_append]
theorem aw_tree : treeN awT = 5 := by unfold treeN; rw [aw_parts]; rfl
theorem aw_words : wordsN awT = 6 := by
  unfold wordsN
  rw [aw_parts]
  simp only [List.map_cons, List.map_nil, List.sum_cons, List.sum_nil, room_int]
  simp [roomN, consT, atomT, nilT, smlB]
theorem ok_cons (a b : Tm) : (consT a b).ok1 := ⟨by simp, by decide, by simp, by simp, Lm.nil _⟩
theorem aw_ok : ∀ p ∈ parts awT, p.ok1 := by
  rw [aw_parts]
  intro p hp
  simp only [List.mem_cons, List.not_mem_nil, or_false] at hp
  rcases hp with rfl | rfl | rfl | rfl | rfl
  · exact ok_cons _ _
  · exact ok_int (by decide +kernel)
  · exact ok_cons _ _
  · exact ok_flat 1 0 (by decide)
  · exact ok_flat 5 0 (by decide)
theorem fair_cons (a b : Tm) : fairB (consT a b) = true := by
  unfold fairB
  rw [leanB_of (by simp [consT, prT])]
  simp [consT, withinB]
theorem fair_nil : fairB nilT = true := by
  unfold fairB
  rw [leanB_of (by simp [nilT, prT])]
  simp [nilT, withinB]
theorem fair_atom (nm : ByteArray) : fairB (atomT nm) = (decide (0 ≤ countZ nm.data.toList) && decide (countZ nm.data.toList ≤ 255)) := by
  unfold fairB
  rw [leanB_of (prT_atom nm)]
  simp [atomT, withinB]
theorem aw_may : mayB awT = true := by
  have h1 : countZ sA.data.toList = 1 := by decide +kernel
  unfold mayB
  rw [aw_tree, aw_parts]
  simp only [List.all_cons, List.all_nil, fair_cons, fair_nil, fair_atom, fairB_int, h1]
  decide +kernel
theorem aw_dep : dep awT ≤ 1000000 := by
  simp [awT, listT, consT, nilT, dep, depL, dep_int, atomT]
theorem aw_cp : listT (cpL [intT 1, atomT sA]) = awT := by simp [cpL, cpT_int, cpT_atom, awT]
end Go.Proofs.YtjacoodfhkaioaaGreatDoor
namespace Go.Proofs.YtjacoodfhkaioaaGreatDoor
open Go.ChangeShapes Go.WideShapes Go.ChangeAt Go.RowKit Go.Shelf
set_option linter.unusedSimpArgs false
set_option linter.unusedVariables false
set_option maxRecDepth 2000
end Go.Proofs.YtjacoodfhkaioaaGreatDoor
namespace Go.Proofs.YtjacoodfhkaioaaGreatDoor
open Go.ChangeShapes Go.WideShapes Go.ChangeAt Go.RowKit Go.Shelf
set_option linter.unusedSimpArgs false
set_option linter.unusedVariables false
set_option maxRecDepth 2000
theorem tv_intN {Z : Int} {w : World} {v : Value} {K : Nat} (h : TV (Low w) w (intT Z) v) (hK : (glim 4294967296 Z.natAbs).length ≤ K) : ∃ z m od cd ol cl ob cb, v = tmV 0 z (.slice od m cd) noS 0 (.slice ol 0 cl) (.slice ob 0 cb) ∧ ∀ w', Below w.heap.size w w' → IsN (.agg #[.bool z, .slice od m cd]) Z K w' := by
  unfold intT TV at h
  obtain ⟨od, cd, ol, cl, ob, cb, rfl, h1, h2, h3, h4, h5, h6, h7⟩ := h
  exact ⟨_, _, od, cd, ol, cl, ob, cb, rfl, fun w' hb => ⟨_, od, _, cd, rfl, (h1.zs (fun k hk => hb.block k hk)).lies, h2, h3, sv_int Z, hK⟩⟩
theorem rnorm_c (v : Value) (Z : Int) (K : Nat) (w : World) (hK : K ≤ 1000000) (h : IsN v Z K w) :
    Calls Tryz.prog 87 #[v] w fun e w' => ∃ b o n c, e = .returned (.agg #[.bool b, .slice o n c]) ∧ IsC (.agg #[.bool b, .slice o n c]) Z K w' ∧ Below w.heap.size w w' := by
  refine (rnorm_w v Z K w hK h).mono ?_
  rintro e w' ⟨sl, rfl, hF, hKK, hb⟩
  obtain ⟨o1, c1, rfl, _, _, _⟩ := hF.parts
  exact ⟨_, _, _, _, rfl, hF.isC hKK, hb⟩
theorem ofInt_c (n : Int) (w : World) (h0 : -9223372036854775808 ≤ n) (h1 : n < 9223372036854775808) :
    Calls Tryz.prog 92 #[.int .i64 n] w fun e w' => ∃ b o m c, e = .returned (.agg #[.bool b, .slice o m c]) ∧ IsC (.agg #[.bool b, .slice o m c]) n 2 w' ∧ Below w.heap.size w w' := by
  refine (ofInt_w n w h0 h1).mono ?_
  rintro e w' ⟨v', rfl, hC, hb⟩
  obtain ⟨b, o, m, c, rfl⟩ := hC.shape
  exact ⟨_, _, _, _, rfl, hC, hb⟩
theorem len2 {N : Int} (h0 : -9223372036854775808 ≤ N) (h1 : N < 9223372036854775808) : (glim 4294967296 N.natAbs).length ≤ 2 := (glim_len (by omega) _ _).2 (by omega)
theorem words_sml (Z : Int) : (((wordsN (intT Z) : Nat) : Int) == 0) = smlB Z := by
  rw [words_int]
  cases smlB Z with
  | true => rfl
  | false =>
    simp only [Bool.false_eq_true, if_false]
    rw [beq_eq_false_iff_ne]
    omega
end Go.Proofs.YtjacoodfhkaioaaGreatDoor
namespace Go.Proofs.YtjacoodfhkaioaaGreatDoor
open Go.ChangeShapes Go.WideShapes Go.ChangeAt Go.RowKit Go.Shelf
set_option linter.unusedSimpArgs false
set_option linter.unusedVariables false
set_option maxRecDepth 2000
theorem sameNum_ne (na nb : Bool) (oa ob : Option Addr) (la lb ca cb : Nat) (w : World) (h : na ≠ nb ∨ la ≠ lb) :
    Calls Tryz.prog 86 #[.agg #[.bool na, .slice oa la ca], .agg #[.bool nb, .slice ob lb cb]] w fun e w' => e = .returned (.bool false) ∧ Below w.heap.size w w' := by
  obtain ⟨kA, kB, hB0, hz0⟩ := boxes2 w (.bool na) (.slice oa la ca) (.bool nb) (.slice ob lb cb) 84 84
  by_cases hb : na = nb
  · subst hb
    have hbb : (na != na) = false := by cases na <;> rfl
    have hl : la ≠ lb := h.resolve_left (fun e => e rfl)
    have hll : ((la : Int) != (lb : Int)) = true := by simp; omega
    clear h hl
    go_enter Tryz.func86, Tryz.ntmps86
    go_wp2
    all_goals (go_ret; exact ⟨rfl, hB0⟩)
  · have hbb : (na != nb) = true := by simpa using hb
    clear h
    go_enter Tryz.func86, Tryz.ntmps86
    go_wp2
    all_goals (go_ret; exact ⟨rfl, hB0⟩)
/-- a number held against its Norm -/
theorem sameNorm_w (neg : Bool) (d : List Nat) (od o : Option Addr) (cd c : Nat) (b : Bool) (n K : Nat) (w : World) (hK : K ≤ 1000000) (hm : Lm 4294967296 d) (hL : Lies od d w) (hd : d.length ≤ K) (hcd : d.length ≤ cd) (hC : IsC (.agg #[.bool b, .slice o n c]) (sv neg (gval 4294967296 d)) K w) :
    Calls Tryz.prog 86 #[.agg #[.bool neg, .slice od d.length cd], .agg #[.bool b, .slice o n c]] w fun e w' => e = .returned (.bool (normB neg d)) ∧ Below w.heap.size w w' := by
  have hnat : (sv neg (gval 4294967296 d)).natAbs = gval 4294967296 d := by unfold sv; cases neg <;> simp
  obtain ⟨hb, hn⟩ := hC.parts
  by_cases h : normB neg d = true
  · rw [h]
    unfold normB at h
    simp only [Bool.and_eq_true, beq_iff_eq] at h
    have hlen : (glim 4294967296 (sv neg (gval 4294967296 d)).natAbs).length = d.length := by omega
    have hgl : glim 4294967296 (sv neg (gval 4294967296 d)).natAbs = d := by
      obtain ⟨k, hk, hg⟩ := glim_is_take hm
      rw [hnat] at hlen ⊢
      rw [hg, List.length_take] at hlen
      rw [hg, List.take_of_length_le (by omega)]
    refine sameNum_w _ _ (sv neg (gval 4294967296 d)) K w hK ⟨od, cd, ?_, ?_, ?_, ?_⟩ hC
    · rw [hgl, h.1]
    · rw [hgl]; exact hL
    · rw [hgl]; exact hcd
    · rw [hgl]; exact hd
  · have hf : normB neg d = false := by simpa using h
    rw [hf]
    refine sameNum_ne _ _ _ _ _ _ _ _ w ?_
    unfold normB at h
    simp only [Bool.and_eq_true, beq_iff_eq, not_and] at h
    by_cases e : neg = b
    · right
      intro e2
      exact h (by rw [← hb, e]) (by rw [hn] at e2; omega)
    · left; exact e
end Go.Proofs.YtjacoodfhkaioaaGreatDoor
namespace Go.Proofs.YtjacoodfhkaioaaGreatDoor
open Go.ChangeShapes Go.WideShapes Go.ChangeAt Go.RowKit Go.Shelf
set_option linter.unusedSimpArgs false
set_option linter.unusedVariables false
set_option maxRecDepth 2000
abbrev MayC (k : Int) (neg : Bool) (od : Option Addr) (ld cd : Nat) (nm : ByteArray) (n : Int) (ol : Option Addr) (ll cl : Nat) (ob : Option Addr) (lb cb : Nat) (w : World) (r : Bool) : Prop :=
  Calls Tryz.prog 43 #[tmV k neg (.slice od ld cd) nm n (.slice ol ll cl) (.slice ob lb cb)] w fun e w' => e = .returned (.bool r) ∧ Below w.heap.size w w'
set_option maxHeartbeats 2000000 in
set_option maxRecDepth 8000 in
theorem bad1a (od : Option Addr) (cd : Nat) (ol : Option Addr) (cl : Nat) (ob : Option Addr) (cb : Nat) (w : World) (k : Int) (ld : Nat) (nm : ByteArray) (n : Int) (ll lb : Nat) (h0 : (k != 0) = true) : MayC k true od ld cd nm n ol ll cl ob lb cb w false := by
  go_enter Tryz.func43, Tryz.ntmps43
  simp only [List.append_eq, List.cons_append, List.nil_append]
  go_wp2
  go_ret
  exact ⟨rfl, (Below.refl _ w).alloc (Nat.le_refl _) _⟩
set_option maxHeartbeats 2000000 in
set_option maxRecDepth 8000 in
theorem bad1b (od : Option Addr) (cd : Nat) (ol : Option Addr) (cl : Nat) (ob : Option Addr) (cb : Nat) (w : World) (k : Int) (ld : Nat) (nm : ByteArray) (n : Int) (ll lb : Nat) (h0 : (k != 0) = true) (hd : (0 : Int) < (ld : Int)) : MayC k false od ld cd nm n ol ll cl ob lb cb w false := by
  go_enter Tryz.func43, Tryz.ntmps43
  simp only [List.append_eq, List.cons_append, List.nil_append]
  go_wp2
  go_ret
  exact ⟨rfl, (Below.refl _ w).alloc (Nat.le_refl _) _⟩
set_option maxHeartbeats 2000000 in
set_option maxRecDepth 8000 in
theorem bad2a (od : Option Addr) (cd : Nat) (ol : Option Addr) (cl : Nat) (ob : Option Addr) (cb : Nat) (w : World) (neg : Bool) (ld : Nat) (nm : ByteArray) (n : Int) (ll lb : Nat) (hq : nm.toList ≠ []) : MayC 0 neg od ld cd nm n ol ll cl ob lb cb w false := by
  go_enter Tryz.func43, Tryz.ntmps43
  simp only [List.append_eq, List.cons_append, List.nil_append]
  go_wp2
  go_ret
  exact ⟨rfl, (Below.refl _ w).alloc (Nat.le_refl _) _⟩
set_option maxHeartbeats 2000000 in
set_option maxRecDepth 8000 in
theorem bad2b (od : Option Addr) (cd : Nat) (ol : Option Addr) (cl : Nat) (ob : Option Addr) (cb : Nat) (w : World) (k : Int) (nm : ByteArray) (n : Int) (ll lb : Nat) (h0 : (k != 0) = true) (h1 : (k != 1) = true) (hq : nm.toList ≠ []) : MayC k false od 0 cd nm n ol ll cl ob lb cb w false := by
  go_enter Tryz.func43, Tryz.ntmps43
  simp only [List.append_eq, List.cons_append, List.nil_append]
  go_wp2
  go_ret
  exact ⟨rfl, (Below.refl _ w).alloc (Nat.le_refl _) _⟩
set_option maxHeartbeats 2000000 in
set_option maxRecDepth 8000 in
theorem bad3a (od : Option Addr) (cd : Nat) (ol : Option Addr) (cl : Nat) (ob : Option Addr) (cb : Nat) (w : World) (neg : Bool) (ld : Nat) (nm : ByteArray) (n : Int) (ll lb : Nat) (hn : nm.toList = []) (hz : (n != 0) = true) : MayC 0 neg od ld cd nm n ol ll cl ob lb cb w false := by
  go_enter Tryz.func43, Tryz.ntmps43
  simp only [List.append_eq, List.cons_append, List.nil_append]
  go_wp2
  go_ret
  exact ⟨rfl, (Below.refl _ w).alloc (Nat.le_refl _) _⟩
set_option maxHeartbeats 2000000 in
set_option maxRecDepth 8000 in
theorem bad3b (od : Option Addr) (cd : Nat) (ol : Option Addr) (cl : Nat) (ob : Option Addr) (cb : Nat) (w : World) (nm : ByteArray) (n : Int) (ll lb : Nat) (hz : (n != 0) = true) : MayC 1 false od 0 cd nm n ol ll cl ob lb cb w false := by
  go_enter Tryz.func43, Tryz.ntmps43
  simp only [List.append_eq, List.cons_append, List.nil_append]
  go_wp2
  go_ret
  exact ⟨rfl, (Below.refl _ w).alloc (Nat.le_refl _) _⟩
set_option maxHeartbeats 2000000 in
set_option maxRecDepth 8000 in
theorem bad3c (od : Option Addr) (cd : Nat) (ol : Option Addr) (cl : Nat) (ob : Option Addr) (cb : Nat) (w : World) (k : Int) (nm : ByteArray) (n : Int) (ll lb : Nat) (h0 : (k != 0) = true) (h1 : (k != 1) = true) (h2 : (k != 2) = true) (h3 : (k != 3) = true) (hn : nm.toList = []) (hz : (n != 0) = true) : MayC k false od 0 cd nm n ol ll cl ob lb cb w false := by
  go_enter Tryz.func43, Tryz.ntmps43
  simp only [List.append_eq, List.cons_append, List.nil_append]
  go_wp2
  go_ret
  exact ⟨rfl, (Below.refl _ w).alloc (Nat.le_refl _) _⟩
set_option maxHeartbeats 2000000 in
set_option maxRecDepth 8000 in
theorem bad4a (od : Option Addr) (cd : Nat) (ol : Option Addr) (cl : Nat) (ob : Option Addr) (cb : Nat) (w : World) (neg : Bool) (ld : Nat) (nm : ByteArray) (ll lb : Nat) (hn : nm.toList = []) (hl : (0 : Int) < (ll : Int)) : MayC 0 neg od ld cd nm 0 ol ll cl ob lb cb w false := by
  go_enter Tryz.func43, Tryz.ntmps43
  simp only [List.append_eq, List.cons_append, List.nil_append]
  go_wp2
  go_ret
  exact ⟨rfl, (Below.refl _ w).alloc (Nat.le_refl _) _⟩
set_option maxHeartbeats 2000000 in
set_option maxRecDepth 8000 in
theorem bad4b (od : Option Addr) (cd : Nat) (ol : Option Addr) (cl : Nat) (ob : Option Addr) (cb : Nat) (w : World) (nm : ByteArray) (ll lb : Nat) (hl : (0 : Int) < (ll : Int)) : MayC 1 false od 0 cd nm 0 ol ll cl ob lb cb w false := by
  go_enter Tryz.func43, Tryz.ntmps43
  simp only [List.append_eq, List.cons_append, List.nil_append]
  go_wp2
  go_ret
  exact ⟨rfl, (Below.refl _ w).alloc (Nat.le_refl _) _⟩
set_option maxHeartbeats 2000000 in
set_option maxRecDepth 8000 in
theorem bad4c (od : Option Addr) (cd : Nat) (ol : Option Addr) (cl : Nat) (ob : Option Addr) (cb : Nat) (w : World) (nm : ByteArray) (n : Int) (ll lb : Nat) (hn : nm.toList = []) (hl : (0 : Int) < (ll : Int)) : MayC 2 false od 0 cd nm n ol ll cl ob lb cb w false := by
  go_enter Tryz.func43, Tryz.ntmps43
  simp only [List.append_eq, List.cons_append, List.nil_append]
  go_wp2
  go_ret
  exact ⟨rfl, (Below.refl _ w).alloc (Nat.le_refl _) _⟩
set_option maxHeartbeats 2000000 in
set_option maxRecDepth 8000 in
theorem bad4d (od : Option Addr) (cd : Nat) (ol : Option Addr) (cl : Nat) (ob : Option Addr) (cb : Nat) (w : World) (nm : ByteArray) (n : Int) (ll lb : Nat) (hn : nm.toList = []) (hl : (0 : Int) < (ll : Int)) : MayC 3 false od 0 cd nm n ol ll cl ob lb cb w false := by
  go_enter Tryz.func43, Tryz.ntmps43
  simp only [List.append_eq, List.cons_append, List.nil_append]
  go_wp2
  go_ret
  exact ⟨rfl, (Below.refl _ w).alloc (Nat.le_refl _) _⟩
set_option maxHeartbeats 2000000 in
set_option maxRecDepth 8000 in
theorem bad4e (od : Option Addr) (cd : Nat) (ol : Option Addr) (cl : Nat) (ob : Option Addr) (cb : Nat) (w : World) (k : Int) (nm : ByteArray) (ll lb : Nat) (h0 : (k != 0) = true) (h1 : (k != 1) = true) (h2 : (k != 2) = true) (h3 : (k != 3) = true) (h4 : (k != 4) = true) (h6 : (k != 6) = true) (hn : nm.toList = []) (hl : (0 : Int) < (ll : Int)) : MayC k false od 0 cd nm 0 ol ll cl ob lb cb w false := by
  go_enter Tryz.func43, Tryz.ntmps43
  simp only [List.append_eq, List.cons_append, List.nil_append]
  go_wp2
  go_ret
  exact ⟨rfl, (Below.refl _ w).alloc (Nat.le_refl _) _⟩
set_option maxHeartbeats 2000000 in
set_option maxRecDepth 8000 in
theorem bad5a (od : Option Addr) (cd : Nat) (ol : Option Addr) (cl : Nat) (ob : Option Addr) (cb : Nat) (w : World) (neg : Bool) (ld : Nat) (nm : ByteArray) (lb : Nat) (hn : nm.toList = []) (hb : (0 : Int) < (lb : Int)) : MayC 0 neg od ld cd nm 0 ol 0 cl ob lb cb w false := by
  go_enter Tryz.func43, Tryz.ntmps43
  simp only [List.append_eq, List.cons_append, List.nil_append]
  go_wp2
  go_ret
  exact ⟨rfl, (Below.refl _ w).alloc (Nat.le_refl _) _⟩
set_option maxHeartbeats 2000000 in
set_option maxRecDepth 8000 in
theorem bad5b (od : Option Addr) (cd : Nat) (ol : Option Addr) (cl : Nat) (ob : Option Addr) (cb : Nat) (w : World) (nm : ByteArray) (lb : Nat) (hb : (0 : Int) < (lb : Int)) : MayC 1 false od 0 cd nm 0 ol 0 cl ob lb cb w false := by
  go_enter Tryz.func43, Tryz.ntmps43
  simp only [List.append_eq, List.cons_append, List.nil_append]
  go_wp2
  go_ret
  exact ⟨rfl, (Below.refl _ w).alloc (Nat.le_refl _) _⟩
set_option maxHeartbeats 2000000 in
set_option maxRecDepth 8000 in
theorem bad5c (od : Option Addr) (cd : Nat) (ol : Option Addr) (cl : Nat) (ob : Option Addr) (cb : Nat) (w : World) (nm : ByteArray) (n : Int) (lb : Nat) (hn : nm.toList = []) (hb : (0 : Int) < (lb : Int)) : MayC 2 false od 0 cd nm n ol 0 cl ob lb cb w false := by
  go_enter Tryz.func43, Tryz.ntmps43
  simp only [List.append_eq, List.cons_append, List.nil_append]
  go_wp2
  go_ret
  exact ⟨rfl, (Below.refl _ w).alloc (Nat.le_refl _) _⟩
set_option maxHeartbeats 2000000 in
set_option maxRecDepth 8000 in
theorem bad5d (od : Option Addr) (cd : Nat) (ol : Option Addr) (cl : Nat) (ob : Option Addr) (cb : Nat) (w : World) (nm : ByteArray) (n : Int) (lb : Nat) (hn : nm.toList = []) (hb : (0 : Int) < (lb : Int)) : MayC 3 false od 0 cd nm n ol 0 cl ob lb cb w false := by
  go_enter Tryz.func43, Tryz.ntmps43
  simp only [List.append_eq, List.cons_append, List.nil_append]
  go_wp2
  go_ret
  exact ⟨rfl, (Below.refl _ w).alloc (Nat.le_refl _) _⟩
set_option maxHeartbeats 2000000 in
set_option maxRecDepth 8000 in
theorem bad5e (od : Option Addr) (cd : Nat) (ol : Option Addr) (cl : Nat) (ob : Option Addr) (cb : Nat) (w : World) (nm : ByteArray) (ll lb : Nat) (hn : nm.toList = []) (hb : (0 : Int) < (lb : Int)) : MayC 4 false od 0 cd nm 0 ol ll cl ob lb cb w false := by
  go_enter Tryz.func43, Tryz.ntmps43
  simp only [List.append_eq, List.cons_append, List.nil_append]
  go_wp2
  go_ret
  exact ⟨rfl, (Below.refl _ w).alloc (Nat.le_refl _) _⟩
set_option maxHeartbeats 2000000 in
set_option maxRecDepth 8000 in
theorem bad5f (od : Option Addr) (cd : Nat) (ol : Option Addr) (cl : Nat) (ob : Option Addr) (cb : Nat) (w : World) (nm : ByteArray) (ll lb : Nat) (hn : nm.toList = []) (hb : (0 : Int) < (lb : Int)) : MayC 6 false od 0 cd nm 0 ol ll cl ob lb cb w false := by
  go_enter Tryz.func43, Tryz.ntmps43
  simp only [List.append_eq, List.cons_append, List.nil_append]
  go_wp2
  go_ret
  exact ⟨rfl, (Below.refl _ w).alloc (Nat.le_refl _) _⟩
set_option maxHeartbeats 2000000 in
set_option maxRecDepth 8000 in
theorem bad5g (od : Option Addr) (cd : Nat) (ol : Option Addr) (cl : Nat) (ob : Option Addr) (cb : Nat) (w : World) (k : Int) (nm : ByteArray) (lb : Nat) (h0 : (k != 0) = true) (h1 : (k != 1) = true) (h2 : (k != 2) = true) (h3 : (k != 3) = true) (h4 : (k != 4) = true) (h6 : (k != 6) = true) (h7 : (k != 7) = true) (hn : nm.toList = []) (hb : (0 : Int) < (lb : Int)) : MayC k false od 0 cd nm 0 ol 0 cl ob lb cb w false := by
  go_enter Tryz.func43, Tryz.ntmps43
  simp only [List.append_eq, List.cons_append, List.nil_append]
  go_wp2
  go_ret
  exact ⟨rfl, (Below.refl _ w).alloc (Nat.le_refl _) _⟩
end Go.Proofs.YtjacoodfhkaioaaGreatDoor
namespace Go.Proofs.YtjacoodfhkaioaaGreatDoor
open Go.ChangeShapes Go.WideShapes Go.ChangeAt Go.RowKit Go.Shelf
set_option linter.unusedSimpArgs false
set_option linter.unusedVariables false
set_option maxRecDepth 2000
set_option maxHeartbeats 2000000 in
set_option maxRecDepth 8000 in
theorem pass5 (od : Option Addr) (cd : Nat) (ol : Option Addr) (cl : Nat) (ob : Option Addr) (cb : Nat) (w : World) (nm : ByteArray) (hn : nm.toList = []) : MayC 5 false od 0 cd nm 0 ol 0 cl ob 0 cb w true := by
  go_enter Tryz.func43, Tryz.ntmps43
  simp only [List.append_eq, List.cons_append, List.nil_append]
  go_wp2
  go_ret
  exact ⟨rfl, (Below.refl _ w).alloc (Nat.le_refl _) _⟩
set_option maxHeartbeats 2000000 in
set_option maxRecDepth 8000 in
theorem passx (od : Option Addr) (cd : Nat) (ol : Option Addr) (cl : Nat) (ob : Option Addr) (cb : Nat) (w : World) (k : Int) (nm : ByteArray) (hn : nm.toList = []) (h0 : (k != 0) = true) (h1 : (k != 1) = true) (h2 : (k != 2) = true) (h3 : (k != 3) = true) (h4 : (k != 4) = true) (h6 : (k != 6) = true) (h7 : (k != 7) = true) (e0 : (k == 0) = false) (e1 : (k == 1) = false) (e2 : (k == 2) = false) (e3 : (k == 3) = false) (e4 : (k == 4) = false) (e5 : (k == 5) = false) (e6 : (k == 6) = false) (e7 : (k == 7) = false) : MayC k false od 0 cd nm 0 ol 0 cl ob 0 cb w false := by
  go_enter Tryz.func43, Tryz.ntmps43
  simp only [List.append_eq, List.cons_append, List.nil_append]
  go_wp2
  go_ret
  exact ⟨rfl, (Below.refl _ w).alloc (Nat.le_refl _) _⟩
set_option maxHeartbeats 2000000 in
set_option maxRecDepth 8000 in
theorem pass7 (od : Option Addr) (cd : Nat) (ol : Option Addr) (cl : Nat) (ob : Option Addr) (cb : Nat) (w : World) (nm : ByteArray) (lb : Nat) (hn : nm.toList = []) : MayC 7 false od 0 cd nm 0 ol 0 cl ob lb cb w (decide ((lb : Int) ≤ 4096)) := by
  obtain ⟨R, hR⟩ : ∃ R, decide ((lb : Int) ≤ 4096) = R := ⟨_, rfl⟩
  unfold MayC
  rw [hR]
  have hHR := hid hR
  clear hR
  go_enter Tryz.func43, Tryz.ntmps43
  simp only [List.append_eq, List.cons_append, List.nil_append]
  go_wp2
  all_goals (
    go_ret
    refine ⟨?_, (Below.refl _ w).alloc (Nat.le_refl _) _⟩
    rw [← hHR.out]
    first | rfl | (simp [*]; done))
set_option maxHeartbeats 2000000 in
set_option maxRecDepth 8000 in
theorem pass2 (od : Option Addr) (cd : Nat) (ol : Option Addr) (cl : Nat) (ob : Option Addr) (cb : Nat) (w : World) (nm : ByteArray) (n : Int) (hn : nm.toList = []) : MayC 2 false od 0 cd nm n ol 0 cl ob 0 cb w (decide (0 ≤ n) && decide (n ≤ 1073741824)) := by
  obtain ⟨R, hR⟩ : ∃ R, (decide (0 ≤ n) && decide (n ≤ 1073741824)) = R := ⟨_, rfl⟩
  unfold MayC
  rw [hR]
  have hHR := hid hR
  clear hR
  go_enter Tryz.func43, Tryz.ntmps43
  simp only [List.append_eq, List.cons_append, List.nil_append]
  go_wp2
  all_goals (
    go_ret
    refine ⟨?_, (Below.refl _ w).alloc (Nat.le_refl _) _⟩
    rw [← hHR.out]
    first | rfl | (simp [*]; done) | (simp [*]; omega) | (simp; omega))
set_option maxHeartbeats 2000000 in
set_option maxRecDepth 8000 in
theorem pass3 (od : Option Addr) (cd : Nat) (ol : Option Addr) (cl : Nat) (ob : Option Addr) (cb : Nat) (w : World) (nm : ByteArray) (n : Int) (hn : nm.toList = []) : MayC 3 false od 0 cd nm n ol 0 cl ob 0 cb w (decide (0 ≤ n) && decide (n ≤ 1073741824)) := by
  obtain ⟨R, hR⟩ : ∃ R, (decide (0 ≤ n) && decide (n ≤ 1073741824)) = R := ⟨_, rfl⟩
  unfold MayC
  rw [hR]
  have hHR := hid hR
  clear hR
  go_enter Tryz.func43, Tryz.ntmps43
  simp only [List.append_eq, List.cons_append, List.nil_append]
  go_wp2
  all_goals (
    go_ret
    refine ⟨?_, (Below.refl _ w).alloc (Nat.le_refl _) _⟩
    rw [← hHR.out]
    first | rfl | (simp [*]; done) | (simp [*]; omega) | (simp; omega))
set_option maxHeartbeats 2000000 in
set_option maxRecDepth 8000 in
theorem pass1 (od : Option Addr) (cd : Nat) (ol : Option Addr) (cl : Nat) (ob : Option Addr) (cb : Nat) (w : World) (nm : ByteArray) (hs : nm.size ≤ 1000000) (hTa : Tabs w) : MayC 1 false od 0 cd nm 0 ol 0 cl ob 0 cb w (decide (0 ≤ countZ nm.data.toList) && decide (countZ nm.data.toList ≤ 255)) := by
  obtain ⟨R, hR⟩ : ∃ R, (decide (0 ≤ countZ nm.data.toList) && decide (countZ nm.data.toList ≤ 255)) = R := ⟨_, rfl⟩
  unfold MayC
  rw [hR]
  have hHR := hid hR
  clear hR
  obtain ⟨kX, hBX, hz0⟩ := bx1 w (.int .i64 1) (.bool false) (.slice od 0 cd) (.string nm) (.int .i64 0) (.slice ol 0 cl) (.slice ob 0 cb) 27
  have hTa1 := hTa.below hBX
  go_enter Tryz.func43, Tryz.ntmps43
  simp only [List.append_eq, List.cons_append, List.nil_append]
  go_wp2_with fail
  generalize (w.alloc (.cells #[.int .i64 1, .bool false, .slice od 0 cd, .string nm, .int .i64 0, .slice ol 0 cl, .slice ob 0 cb] 27)) = W0 at *
  refine (rvalid_w nm _ (by omega) hTa1).mono ?_
  rintro e w1 ⟨rfl, b1⟩
  have hB1 := below_and hBX (by omega) b1
  obtain ⟨x0, x1, x2, x3, x4, x5, x6⟩ := (kX.below b1).res
  by_cases hv : Lib.validD nm.data.toList = true
  · rw [hv]
    go_wp2_with fail
    refine (rcount_w nm _ (by omega) (hTa1.below b1)).mono ?_
    rintro e w2 ⟨rfl, b2⟩
    have hB2 := below_and hB1 (by omega) b2
    have hc : countZ nm.data.toList = ((sg nm.data.toList).length : Int) := by unfold countZ; rw [if_pos hv]
    obtain ⟨c, hcc⟩ : ∃ c, countZ nm.data.toList = c := ⟨_, rfl⟩
    have h0 : 0 ≤ c := by rw [← hcc, hc]; omega
    rw [hcc]
    have hHc := hid hcc
    clear hc hcc
    go_wp2
    all_goals (
      go_ret
      refine ⟨?_, hB2⟩
      have hq := hHR.out
      rw [hHc.out, decide_eq_true h0, Bool.true_and] at hq
      rw [← hq]
      clear hq
      first | rfl | (simp [*]; done))
  · have hv' : Lib.validD nm.data.toList = false := by simpa using hv
    rw [hv']
    have hc : countZ nm.data.toList = -1 := by unfold countZ; rw [if_neg hv]
    have hRf : R = false := by rw [← hHR.out, hc]; rfl
    subst hRf
    clear hHR hv hv' hc
    go_wp2
    go_ret
    exact ⟨rfl, hB1⟩
end Go.Proofs.YtjacoodfhkaioaaGreatDoor
namespace Go.Proofs.YtjacoodfhkaioaaGreatDoor
open Go.ChangeShapes Go.WideShapes Go.ChangeAt Go.RowKit Go.Shelf
set_option linter.unusedSimpArgs false
set_option linter.unusedVariables false
set_option maxRecDepth 2000
set_option maxHeartbeats 4000000 in
set_option maxRecDepth 8000 in
theorem pass0 (od : Option Addr) (cd : Nat) (ol : Option Addr) (cl : Nat) (ob : Option Addr) (cb : Nat) (w : World) (neg : Bool) (d : List Nat) (nm : ByteArray) (hn : nm.toList = []) (hd' : d.length ≤ 1000000) (hm' : Lm 4294967296 d) (hcd' : d.length ≤ cd) (hL : Ls (Low w) od (lim d) w) :
    MayC 0 neg od d.length cd nm 0 ol 0 cl ob 0 cb w (decide ((d.length : Int) ≤ 64) && normB neg d) := by
  obtain ⟨R, hR⟩ : ∃ R, (decide ((d.length : Int) ≤ 64) && normB neg d) = R := ⟨_, rfl⟩
  unfold MayC
  rw [hR]
  have hHR := hid hR
  clear hR
  obtain ⟨kX, hBX, hz0⟩ := bx1 w (.int .i64 0) (.bool neg) (.slice od d.length cd) (.string nm) (.int .i64 0) (.slice ol 0 cl) (.slice ob 0 cb) 27
  obtain ⟨Z, hZ'⟩ : ∃ Z, sv neg (gval 4294967296 d) = Z := ⟨_, rfl⟩
  obtain ⟨nB, hnB'⟩ : ∃ nB, normB neg d = nB := ⟨_, rfl⟩
  have hnB := hid hnB'
  have hZ := hid hZ'
  have hm := hid hm'
  have hd := hid hd'
  have hcd := hid hcd'
  go_enter Tryz.func43, Tryz.ntmps43
  simp only [List.append_eq, List.cons_append, List.nil_append]
  go_upto_region 5 with fail
  generalize (w.alloc (.cells #[.int .i64 0, .bool neg, .slice od d.length cd, .string nm, .int .i64 0, .slice ol 0 cl, .slice ob 0 cb] 27)) = W0 at *
  have hLx := hid (fun w' (hb : Below W0.heap.size W0 w') => ((hL.zs (fun k hk => hBX.block k hk)).mono (fun k hk _ => hk) : Ls (Low W0) od (lim d) W0).zs (fun k hk => hb.block k hk) |>.lies)
  have hNX := hid (fun w' (hb : Below W0.heap.size W0 w') => (show IsN (.agg #[.bool neg, .slice od d.length cd]) Z 1000000 w' from ⟨neg, od, d, cd, rfl, hLx.out w' hb, hcd', hm', hZ', hd'⟩))
  have hS : Hid (∀ w', Below W0.heap.size W0 w' → (w'.cell? ⟨w.heap.size, 1, none⟩ = some (.bool neg) ∧ w'.cell? ⟨w.heap.size, 2, none⟩ = some (.slice od d.length cd))) := hid (fun w' hb => by
    obtain ⟨t0, t1, t2, t3, t4, t5, t6⟩ := (kX.below hb).res
    exact ⟨t1, t2⟩)
  have hDr : Below W0.heap.size W0 W0.drew := (Below.refl _ W0).drew
  have hzz : w.heap.size ≤ w.heap.size := Nat.le_refl _
  have hBh := hid hBX
  clear hZ' hnB' hm' hd' hcd' hL hBX kX hz0
  refine wp_region_held_drew (S := fun w' => w'.cell? ⟨w.heap.size, 1, none⟩ = some (.bool neg) ∧ w'.cell? ⟨w.heap.size, 2, none⟩ = some (.slice od d.length cd)) (by kernel_rfl) (by first | exact hS.out _ (Below.refl _ _) | exact hS.out _ hDr) (fun hHeld => ?_)
  by_cases h64 : (d.length : Int) ≤ 64
  · have hRn : R = nB := by rw [← hHR.out, decide_eq_true h64, Bool.true_and, hnB.out]
    subst hRn
    clear hHR
    refine wpAnyH_take (i := 0) (oi := _) (v := ?_) rfl (by kernel_rfl) (by kernel_rfl) (by kernel_rfl) (fun _ _ _ h => h) (Or.inl ⟨by rfl, ?_⟩) (by assumption) ?_
    rotate_left 1
    · (intro w hSw; (try dsimp only at hSw); go_simp; try with_reducible rfl)
    try simp (maxSteps := 10000000) only [List.getElem_toArray, List.getElem_cons_succ, List.getElem_cons_zero, Act.put, List.setIfInBounds_toArray, List.set_cons_zero, List.set_cons_succ]
    refine wpAnyH_take (i := 1) (oi := _) (v := ?_) rfl (by kernel_rfl) (by kernel_rfl) (by kernel_rfl) (fun _ _ _ h => h) (Or.inl ⟨by rfl, ?_⟩) (by assumption) ?_
    rotate_left 1
    · (intro w hSw; (try dsimp only at hSw); go_simp; try with_reducible rfl)
    try simp (maxSteps := 10000000) only [List.getElem_toArray, List.getElem_cons_succ, List.getElem_cons_zero, Act.put, List.setIfInBounds_toArray, List.set_cons_zero, List.set_cons_succ]
    refine wpAnyH_take (i := 2) (oi := _) (v := ?_) rfl (by kernel_rfl) (by kernel_rfl) (by kernel_rfl) (fun _ _ _ h => h) (Or.inl ⟨by rfl, ?_⟩) (by assumption) ?_
    rotate_left 1
    · (intro w hSw; (try dsimp only at hSw); go_simp; try with_reducible rfl)
    try simp (maxSteps := 10000000) only [List.getElem_toArray, List.getElem_cons_succ, List.getElem_cons_zero, Act.put, List.setIfInBounds_toArray, List.set_cons_zero, List.set_cons_succ]
    refine wpAnyH_take (i := 3) (oi := _) (v := ?_) rfl (by kernel_rfl) (by kernel_rfl) (by kernel_rfl) (fun _ _ _ h => h) (Or.inl ⟨by rfl, ?_⟩) (by assumption) ?_
    rotate_left 1
    · (intro w hSw; (try dsimp only at hSw); go_simp; try with_reducible rfl)
    try simp (maxSteps := 10000000) only [List.getElem_toArray, List.getElem_cons_succ, List.getElem_cons_zero, Act.put, List.setIfInBounds_toArray, List.set_cons_zero, List.set_cons_succ]
    refine wpAnyH_take (i := 4) (oi := _) (v := ?_) rfl (by kernel_rfl) (by kernel_rfl) (by kernel_rfl) (fun _ _ _ h => h) (Or.inl ⟨by rfl, ?_⟩) (by assumption) ?_
    rotate_left 1
    · (intro w hSw; (try dsimp only at hSw); go_simp; try with_reducible rfl)
    try simp (maxSteps := 10000000) only [List.getElem_toArray, List.getElem_cons_succ, List.getElem_cons_zero, Act.put, List.setIfInBounds_toArray, List.set_cons_zero, List.set_cons_succ]
    refine wpAnyH_take (i := 5) (oi := _) (v := ?_) rfl (by kernel_rfl) (by kernel_rfl) (by kernel_rfl) (fun _ _ _ h => h) (Or.inl ⟨by rfl, ?_⟩) (by assumption) ?_
    rotate_left 1
    · (intro w hSw; (try dsimp only at hSw); go_simp; try with_reducible rfl)
    try simp (maxSteps := 10000000) only [List.getElem_toArray, List.getElem_cons_succ, List.getElem_cons_zero, Act.put, List.setIfInBounds_toArray, List.set_cons_zero, List.set_cons_succ]
    refine wpAnyH_take (i := 6) (oi := _) (v := ?_) rfl (by kernel_rfl) (by kernel_rfl) (by kernel_rfl) (fun _ _ _ h => h) (Or.inl ⟨by rfl, ?_⟩) (by assumption) ?_
    rotate_left 1
    · (intro w hSw; (try dsimp only at hSw); go_simp; try with_reducible rfl)
    try simp (maxSteps := 10000000) only [List.getElem_toArray, List.getElem_cons_succ, List.getElem_cons_zero, Act.put, List.setIfInBounds_toArray, List.set_cons_zero, List.set_cons_succ]
    refine wpAnyH_take (i := 7) (oi := _) (v := ?_) rfl (by kernel_rfl) (by kernel_rfl) (by kernel_rfl) (fun _ _ _ h => h) (Or.inl ⟨by rfl, ?_⟩) (by assumption) ?_
    rotate_left 1
    · (intro w hSw; (try dsimp only at hSw); go_simp; try with_reducible rfl)
    try simp (maxSteps := 10000000) only [List.getElem_toArray, List.getElem_cons_succ, List.getElem_cons_zero, Act.put, List.setIfInBounds_toArray, List.set_cons_zero, List.set_cons_succ]
    refine wpAnyH_take (i := 8) (oi := _) (v := ?_) rfl (by kernel_rfl) (by kernel_rfl) (by kernel_rfl) (fun _ _ _ h => h) (Or.inl ⟨by rfl, ?_⟩) (by assumption) ?_
    rotate_left 1
    · (intro w hSw; (try dsimp only at hSw); go_simp; try with_reducible rfl)
    try simp (maxSteps := 10000000) only [List.getElem_toArray, List.getElem_cons_succ, List.getElem_cons_zero, Act.put, List.setIfInBounds_toArray, List.set_cons_zero, List.set_cons_succ]
    refine wpAnyH_take (i := 9) (oi := _) (v := ?_) rfl (by kernel_rfl) (by kernel_rfl) (by kernel_rfl) (fun _ _ _ h => h) (Or.inl ⟨by rfl, ?_⟩) (by assumption) ?_
    rotate_left 1
    · (intro w hSw; (try dsimp only at hSw); go_simp; try with_reducible rfl)
    try simp (maxSteps := 10000000) only [List.getElem_toArray, List.getElem_cons_succ, List.getElem_cons_zero, Act.put, List.setIfInBounds_toArray, List.set_cons_zero, List.set_cons_succ]
    refine wpAnyH_take (i := 10) (oi := _) (v := ?_) rfl (by kernel_rfl) (by kernel_rfl) (by kernel_rfl) (fun _ _ _ h => h) (Or.inl ⟨by rfl, ?_⟩) (by assumption) ?_
    rotate_left 1
    · (intro w hSw; (try dsimp only at hSw); go_simp; try with_reducible rfl)
    try simp (maxSteps := 10000000) only [List.getElem_toArray, List.getElem_cons_succ, List.getElem_cons_zero, Act.put, List.setIfInBounds_toArray, List.set_cons_zero, List.set_cons_succ]
    refine wpAnyH_take (i := 11) (oi := _) (v := ?_) rfl (by kernel_rfl) (by kernel_rfl) (by kernel_rfl) (fun _ _ _ h => h) (Or.inl ⟨by rfl, ?_⟩) (by assumption) ?_
    rotate_left 1
    · (intro w hSw; (try dsimp only at hSw); go_simp; try with_reducible rfl)
    try simp (maxSteps := 10000000) only [List.getElem_toArray, List.getElem_cons_succ, List.getElem_cons_zero, Act.put, List.setIfInBounds_toArray, List.set_cons_zero, List.set_cons_succ]
    refine wpAnyH_take (i := 12) (oi := _) (v := ?_) rfl (by kernel_rfl) (by kernel_rfl) (by kernel_rfl) (fun _ _ _ h => h) (Or.inl ⟨by rfl, ?_⟩) (by assumption) ?_
    rotate_left 1
    · (intro w hSw; (try dsimp only at hSw); go_simp; try with_reducible rfl)
    try simp (maxSteps := 10000000) only [List.getElem_toArray, List.getElem_cons_succ, List.getElem_cons_zero, Act.put, List.setIfInBounds_toArray, List.set_cons_zero, List.set_cons_succ]
    refine wpAnyH_take (i := 13) (oi := _) (v := ?_) rfl (by kernel_rfl) (by kernel_rfl) (by kernel_rfl) (fun _ _ _ h => h) (Or.inl ⟨by rfl, ?_⟩) (by assumption) ?_
    rotate_left 1
    · (intro w hSw; (try dsimp only at hSw); go_simp; try with_reducible rfl)
    try simp (maxSteps := 10000000) only [List.getElem_toArray, List.getElem_cons_succ, List.getElem_cons_zero, Act.put, List.setIfInBounds_toArray, List.set_cons_zero, List.set_cons_succ]
    refine wpAnyH_take (i := 14) (oi := _) (v := ?_) rfl (by kernel_rfl) (by kernel_rfl) (by kernel_rfl) (fun _ _ _ h => h) (Or.inl ⟨by rfl, ?_⟩) (by assumption) ?_
    rotate_left 1
    · (intro w hSw; (try dsimp only at hSw); go_simp; try with_reducible rfl)
    try simp (maxSteps := 10000000) only [List.getElem_toArray, List.getElem_cons_succ, List.getElem_cons_zero, Act.put, List.setIfInBounds_toArray, List.set_cons_zero, List.set_cons_succ]
    refine wpAnyH_ready (rs := [15]) (by kernel_rfl) (by simp) ?_
    refine AllReadyH.cons rfl (fun K hK => ?_) AllReadyH.nil
    go_simp
    refine (rnorm_c _ Z 1000000 _ (by omega) (hNX.out _ hDr)).mono ?_
    rintro e wa ⟨ba, oa2, na2, ca2, rfl, hCa, bra⟩
    have c1 : Below W0.heap.size W0 wa := below_and hDr (Nat.le_refl _) bra
    try go_simp
    refine hK.out _ _ ?_ (fun hHeld => ?_)
    · exact hS.out _ (by assumption)
    clear hK K
    try simp (maxSteps := 10000000) only [List.getElem_toArray, List.getElem_cons_succ, List.getElem_cons_zero, Act.put, List.setIfInBounds_toArray, List.set_cons_zero, List.set_cons_succ]
    refine wpAnyH_ready (rs := [16]) (by kernel_rfl) (by simp) ?_
    refine AllReadyH.cons rfl (fun K hK => ?_) AllReadyH.nil
    go_simp
    refine (sameNorm_w neg d od oa2 cd ca2 ba na2 1000000 _ (by omega) hm.out ((hLx.out _ c1)) hd.out hcd.out (by rw [hZ.out]; exact hCa)).mono ?_
    rintro e wb ⟨rfl, brb⟩
    rw [hnB.out]
    have c2 : Below W0.heap.size W0 wb := below_and c1 (Nat.le_refl _) brb
    try go_simp
    refine hK.out _ _ ?_ (fun hHeld => ?_)
    · exact hS.out _ (by assumption)
    clear hK K
    try simp (maxSteps := 10000000) only [List.getElem_toArray, List.getElem_cons_succ, List.getElem_cons_zero, Act.put, List.setIfInBounds_toArray, List.set_cons_zero, List.set_cons_succ]
    refine wpAnyH_take (i := 17) (oi := _) (v := ?_) rfl (by kernel_rfl) (by kernel_rfl) (by kernel_rfl) (fun _ _ _ h => h) (Or.inl ⟨by rfl, ?_⟩) (by assumption) ?_
    rotate_left 1
    · (intro w hSw; (try dsimp only at hSw); go_simp; try with_reducible rfl)
    try simp (maxSteps := 10000000) only [List.getElem_toArray, List.getElem_cons_succ, List.getElem_cons_zero, Act.put, List.setIfInBounds_toArray, List.set_cons_zero, List.set_cons_succ]
    refine wpAnyH_take (i := 18) (oi := _) (v := ?_) rfl (by kernel_rfl) (by kernel_rfl) (by kernel_rfl) (fun _ _ _ h => h) (Or.inl ⟨by rfl, ?_⟩) (by assumption) ?_
    rotate_left 1
    · (intro w hSw; (try dsimp only at hSw); go_simp; try with_reducible rfl)
    try simp (maxSteps := 10000000) only [List.getElem_toArray, List.getElem_cons_succ, List.getElem_cons_zero, Act.put, List.setIfInBounds_toArray, List.set_cons_zero, List.set_cons_succ]
    refine wpAnyH_done (by kernel_rfl) ?_ _
    go_wp2
    go_ret
    exact ⟨rfl, below_and hBh.out (Nat.le_refl _) c2⟩
  · have hRn : R = false := by rw [← hHR.out, decide_eq_false h64, Bool.false_and]
    subst hRn
    clear hHR
    refine wpAnyH_take (i := 0) (oi := _) (v := ?_) rfl (by kernel_rfl) (by kernel_rfl) (by kernel_rfl) (fun _ _ _ h => h) (Or.inl ⟨by rfl, ?_⟩) (by assumption) ?_
    rotate_left 1
    · (intro w hSw; (try dsimp only at hSw); go_simp; try with_reducible rfl)
    try simp (maxSteps := 10000000) only [List.getElem_toArray, List.getElem_cons_succ, List.getElem_cons_zero, Act.put, List.setIfInBounds_toArray, List.set_cons_zero, List.set_cons_succ]
    refine wpAnyH_take (i := 1) (oi := _) (v := ?_) rfl (by kernel_rfl) (by kernel_rfl) (by kernel_rfl) (fun _ _ _ h => h) (Or.inl ⟨by rfl, ?_⟩) (by assumption) ?_
    rotate_left 1
    · (intro w hSw; (try dsimp only at hSw); go_simp; try with_reducible rfl)
    try simp (maxSteps := 10000000) only [List.getElem_toArray, List.getElem_cons_succ, List.getElem_cons_zero, Act.put, List.setIfInBounds_toArray, List.set_cons_zero, List.set_cons_succ]
    refine wpAnyH_take (i := 2) (oi := _) (v := ?_) rfl (by kernel_rfl) (by kernel_rfl) (by kernel_rfl) (fun _ _ _ h => h) (Or.inl ⟨by rfl, ?_⟩) (by assumption) ?_
    rotate_left 1
    · (intro w hSw; (try dsimp only at hSw); go_simp; try with_reducible rfl)
    try simp (maxSteps := 10000000) only [List.getElem_toArray, List.getElem_cons_succ, List.getElem_cons_zero, Act.put, List.setIfInBounds_toArray, List.set_cons_zero, List.set_cons_succ]
    refine wpAnyH_take (i := 3) (oi := _) (v := ?_) rfl (by kernel_rfl) (by kernel_rfl) (by kernel_rfl) (fun _ _ _ h => h) (Or.inl ⟨by rfl, ?_⟩) (by assumption) ?_
    rotate_left 1
    · (intro w hSw; (try dsimp only at hSw); go_simp; try with_reducible rfl)
    try simp (maxSteps := 10000000) only [List.getElem_toArray, List.getElem_cons_succ, List.getElem_cons_zero, Act.put, List.setIfInBounds_toArray, List.set_cons_zero, List.set_cons_succ]
    refine wpAnyH_take (i := 4) (oi := _) (v := ?_) rfl (by kernel_rfl) (by kernel_rfl) (by kernel_rfl) (fun _ _ _ h => h) (Or.inl ⟨by rfl, ?_⟩) (by assumption) ?_
    rotate_left 1
    · (intro w hSw; (try dsimp only at hSw); go_simp; try with_reducible rfl)
    try simp (maxSteps := 10000000) only [List.getElem_toArray, List.getElem_cons_succ, List.getElem_cons_zero, Act.put, List.setIfInBounds_toArray, List.set_cons_zero, List.set_cons_succ]
    refine wpAnyH_take (i := 5) (oi := _) (v := undef) rfl (by kernel_rfl) (by kernel_rfl) (by kernel_rfl) (fun _ _ _ h => h) (Or.inr ⟨by rfl, rfl⟩) (by assumption) ?_
    try simp (maxSteps := 10000000) only [List.getElem_toArray, List.getElem_cons_succ, List.getElem_cons_zero, Act.put, List.setIfInBounds_toArray, List.set_cons_zero, List.set_cons_succ]
    refine wpAnyH_take (i := 6) (oi := _) (v := undef) rfl (by kernel_rfl) (by kernel_rfl) (by kernel_rfl) (fun _ _ _ h => h) (Or.inr ⟨by rfl, rfl⟩) (by assumption) ?_
    try simp (maxSteps := 10000000) only [List.getElem_toArray, List.getElem_cons_succ, List.getElem_cons_zero, Act.put, List.setIfInBounds_toArray, List.set_cons_zero, List.set_cons_succ]
    refine wpAnyH_take (i := 7) (oi := _) (v := undef) rfl (by kernel_rfl) (by kernel_rfl) (by kernel_rfl) (fun _ _ _ h => h) (Or.inr ⟨by rfl, rfl⟩) (by assumption) ?_
    try simp (maxSteps := 10000000) only [List.getElem_toArray, List.getElem_cons_succ, List.getElem_cons_zero, Act.put, List.setIfInBounds_toArray, List.set_cons_zero, List.set_cons_succ]
    refine wpAnyH_take (i := 8) (oi := _) (v := undef) rfl (by kernel_rfl) (by kernel_rfl) (by kernel_rfl) (fun _ _ _ h => h) (Or.inr ⟨by rfl, rfl⟩) (by assumption) ?_
    try simp (maxSteps := 10000000) only [List.getElem_toArray, List.getElem_cons_succ, List.getElem_cons_zero, Act.put, List.setIfInBounds_toArray, List.set_cons_zero, List.set_cons_succ]
    refine wpAnyH_take (i := 9) (oi := _) (v := undef) rfl (by kernel_rfl) (by kernel_rfl) (by kernel_rfl) (fun _ _ _ h => h) (Or.inr ⟨by rfl, rfl⟩) (by assumption) ?_
    try simp (maxSteps := 10000000) only [List.getElem_toArray, List.getElem_cons_succ, List.getElem_cons_zero, Act.put, List.setIfInBounds_toArray, List.set_cons_zero, List.set_cons_succ]
    refine wpAnyH_take (i := 10) (oi := _) (v := undef) rfl (by kernel_rfl) (by kernel_rfl) (by kernel_rfl) (fun _ _ _ h => h) (Or.inr ⟨by rfl, rfl⟩) (by assumption) ?_
    try simp (maxSteps := 10000000) only [List.getElem_toArray, List.getElem_cons_succ, List.getElem_cons_zero, Act.put, List.setIfInBounds_toArray, List.set_cons_zero, List.set_cons_succ]
    refine wpAnyH_take (i := 11) (oi := _) (v := undef) rfl (by kernel_rfl) (by kernel_rfl) (by kernel_rfl) (fun _ _ _ h => h) (Or.inr ⟨by rfl, rfl⟩) (by assumption) ?_
    try simp (maxSteps := 10000000) only [List.getElem_toArray, List.getElem_cons_succ, List.getElem_cons_zero, Act.put, List.setIfInBounds_toArray, List.set_cons_zero, List.set_cons_succ]
    refine wpAnyH_take (i := 12) (oi := _) (v := undef) rfl (by kernel_rfl) (by kernel_rfl) (by kernel_rfl) (fun _ _ _ h => h) (Or.inr ⟨by rfl, rfl⟩) (by assumption) ?_
    try simp (maxSteps := 10000000) only [List.getElem_toArray, List.getElem_cons_succ, List.getElem_cons_zero, Act.put, List.setIfInBounds_toArray, List.set_cons_zero, List.set_cons_succ]
    refine wpAnyH_take (i := 13) (oi := _) (v := undef) rfl (by kernel_rfl) (by kernel_rfl) (by kernel_rfl) (fun _ _ _ h => h) (Or.inr ⟨by rfl, rfl⟩) (by assumption) ?_
    try simp (maxSteps := 10000000) only [List.getElem_toArray, List.getElem_cons_succ, List.getElem_cons_zero, Act.put, List.setIfInBounds_toArray, List.set_cons_zero, List.set_cons_succ]
    refine wpAnyH_take (i := 14) (oi := _) (v := undef) rfl (by kernel_rfl) (by kernel_rfl) (by kernel_rfl) (fun _ _ _ h => h) (Or.inr ⟨by rfl, rfl⟩) (by assumption) ?_
    try simp (maxSteps := 10000000) only [List.getElem_toArray, List.getElem_cons_succ, List.getElem_cons_zero, Act.put, List.setIfInBounds_toArray, List.set_cons_zero, List.set_cons_succ]
    refine wpAnyH_take (i := 15) (oi := _) (v := undef) rfl (by kernel_rfl) (by kernel_rfl) (by kernel_rfl) (fun _ _ _ h => h) (Or.inr ⟨by rfl, rfl⟩) (by assumption) ?_
    try simp (maxSteps := 10000000) only [List.getElem_toArray, List.getElem_cons_succ, List.getElem_cons_zero, Act.put, List.setIfInBounds_toArray, List.set_cons_zero, List.set_cons_succ]
    refine wpAnyH_take (i := 16) (oi := _) (v := undef) rfl (by kernel_rfl) (by kernel_rfl) (by kernel_rfl) (fun _ _ _ h => h) (Or.inr ⟨by rfl, rfl⟩) (by assumption) ?_
    try simp (maxSteps := 10000000) only [List.getElem_toArray, List.getElem_cons_succ, List.getElem_cons_zero, Act.put, List.setIfInBounds_toArray, List.set_cons_zero, List.set_cons_succ]
    refine wpAnyH_take (i := 17) (oi := _) (v := ?_) rfl (by kernel_rfl) (by kernel_rfl) (by kernel_rfl) (fun _ _ _ h => h) (Or.inl ⟨by rfl, ?_⟩) (by assumption) ?_
    rotate_left 1
    · (intro w hSw; (try dsimp only at hSw); go_simp; try with_reducible rfl)
    try simp (maxSteps := 10000000) only [List.getElem_toArray, List.getElem_cons_succ, List.getElem_cons_zero, Act.put, List.setIfInBounds_toArray, List.set_cons_zero, List.set_cons_succ]
    refine wpAnyH_take (i := 18) (oi := _) (v := ?_) rfl (by kernel_rfl) (by kernel_rfl) (by kernel_rfl) (fun _ _ _ h => h) (Or.inl ⟨by rfl, ?_⟩) (by assumption) ?_
    rotate_left 1
    · (intro w hSw; (try dsimp only at hSw); go_simp; try with_reducible rfl)
    try simp (maxSteps := 10000000) only [List.getElem_toArray, List.getElem_cons_succ, List.getElem_cons_zero, Act.put, List.setIfInBounds_toArray, List.set_cons_zero, List.set_cons_succ]
    refine wpAnyH_done (by kernel_rfl) ?_ _
    go_wp2
    go_ret
    exact ⟨rfl, below_and hBh.out (Nat.le_refl _) hDr⟩
end Go.Proofs.YtjacoodfhkaioaaGreatDoor
namespace Go.Proofs.YtjacoodfhkaioaaGreatDoor
open Go.ChangeShapes Go.WideShapes Go.ChangeAt Go.RowKit Go.Shelf
set_option linter.unusedSimpArgs false
set_option linter.unusedVariables false
set_option maxRecDepth 2000
theorem nil_noS : noS.toList = [] := by decide +kernel
theorem all_lean {T : Tm} (h : leanB T = false) : (parts T).all fairB = false := by
  rw [parts_eq]
  simp [fairB, h]
theorem all_flat {k : Int} {neg : Bool} {d : List Nat} {nm : ByteArray} {n : Int} {l : List Tm} {b : List Nat} (hk : ¬ (k = 4 ∨ k = 6)) (h : leanB (.mk k neg d nm n l b) = true) : (parts (.mk k neg d nm n l b)).all fairB = withinB (.mk k neg d nm n l b) := by
  have hp : parts (.mk k neg d nm n l b) = [.mk k neg d nm n l b] := by simp [parts, hk]
  rw [hp]
  simp [fairB, h]
theorem len0 {α : Type} {l : List α} (h : ¬ (l.length : Int) = 0) : (0 : Int) < (l.length : Int) := by omega
theorem ne_true {k : Int} {c : Int} (h : ¬ k = c) : (k != c) = true := by simpa using h
theorem eq_false' {k : Int} {c : Int} (h : ¬ k = c) : (k == c) = false := by simpa using h
abbrev May0 (T : Tm) (v : Value) (w : World) : Prop := Calls Tryz.prog 43 #[v] w fun e w' => e = .returned (.bool ((parts T).all fairB)) ∧ Below w.heap.size w w'
theorem lnil {α : Type} {l : List α} (h : (l.length : Int) = 0) : l = [] := List.eq_nil_of_length_eq_zero (by omega)
theorem may_k0 {od ol ob : Option Addr} {cd cl cb : Nat} {w : World} {neg : Bool} {d : List Nat} {nm : ByteArray} {n : Int} {l : List Tm} {b : List Nat} (hok : (Tm.mk 0 neg d nm n l b).ok1) (hcd : d.length ≤ cd) (hL : Ls (Low w) od (lim d) w) : May0 (.mk 0 neg d nm n l b) (tmV 0 neg (.slice od d.length cd) nm n (.slice ol l.length cl) (.slice ob b.length cb)) w := by
  obtain ⟨hd, hs, _, _, hm⟩ : d.length ≤ 1000000 ∧ nm.size ≤ 1000000 ∧ l.length ≤ 1000000 ∧ b.length ≤ 1000000 ∧ Lm 4294967296 d := hok
  by_cases c2 : nm.toList = []
  case neg => unfold May0; rw [all_lean (by simp [leanB, prT, eqF, nil_noS, *])]; exact bad2a od cd ol cl ob cb w neg _ nm n _ _ c2
  by_cases c3 : n = 0
  case neg => unfold May0; rw [all_lean (by simp [leanB, prT, eqF, nil_noS, *])]; exact bad3a od cd ol cl ob cb w neg _ nm n _ _ c2 (ne_true c3)
  by_cases c4 : (l.length : Int) = 0
  case neg => unfold May0; rw [all_lean (by have : l ≠ [] := (fun e => c4 (by rw [e]; rfl)); simp [leanB, prT, eqF, nil_noS, *])]; subst c3; exact bad4a od cd ol cl ob cb w neg _ nm _ _ c2 (len0 c4)
  by_cases c5 : (b.length : Int) = 0
  case neg => unfold May0; rw [all_lean (by have : b ≠ [] := (fun e => c5 (by rw [e]; rfl)); simp [leanB, prT, eqF, nil_noS, *])]; subst c3; rw [lnil c4]; exact bad5a od cd ol cl ob cb w neg _ nm _ c2 (len0 c5)
  subst c3
  have e4 := lnil c4
  have e5 := lnil c5
  subst e4 e5
  unfold May0
  rw [all_flat (by decide) (by simp [leanB, prT, eqF, nil_noS, *])]
  have := pass0 od cd ol cl ob cb w neg d nm c2 hd hm hcd hL
  simpa [withinB] using this
theorem may_k1 {od ol ob : Option Addr} {cd cl cb : Nat} {w : World} {neg : Bool} {d : List Nat} {nm : ByteArray} {n : Int} {l : List Tm} {b : List Nat} (hok : (Tm.mk 1 neg d nm n l b).ok1) (hTa : Tabs w) : May0 (.mk 1 neg d nm n l b) (tmV 1 neg (.slice od d.length cd) nm n (.slice ol l.length cl) (.slice ob b.length cb)) w := by
  obtain ⟨hd, hs, _, _, hm⟩ : d.length ≤ 1000000 ∧ nm.size ≤ 1000000 ∧ l.length ≤ 1000000 ∧ b.length ≤ 1000000 ∧ Lm 4294967296 d := hok
  by_cases c0 : neg = true
  · subst c0; unfold May0; rw [all_lean (by simp [leanB, prT, eqF])]; exact bad1a od cd ol cl ob cb w 1 _ nm n _ _ rfl
  have c0' : neg = false := by simpa using c0
  subst c0'
  by_cases c1 : (d.length : Int) = 0
  case neg => unfold May0; rw [all_lean (by have : d ≠ [] := (fun e => c1 (by rw [e]; rfl)); simp [leanB, prT, eqF, *])]; exact bad1b od cd ol cl ob cb w 1 _ nm n _ _ rfl (len0 c1)
  by_cases c3 : n = 0
  case neg => unfold May0; rw [all_lean (by simp [leanB, prT, eqF, *])]; rw [lnil c1]; exact bad3b od cd ol cl ob cb w nm n _ _ (ne_true c3)
  by_cases c4 : (l.length : Int) = 0
  case neg => unfold May0; rw [all_lean (by have : l ≠ [] := (fun e => c4 (by rw [e]; rfl)); simp [leanB, prT, eqF, *])]; subst c3; rw [lnil c1]; exact bad4b od cd ol cl ob cb w nm _ _ (len0 c4)
  by_cases c5 : (b.length : Int) = 0
  case neg => unfold May0; rw [all_lean (by have : b ≠ [] := (fun e => c5 (by rw [e]; rfl)); simp [leanB, prT, eqF, *])]; subst c3; rw [lnil c1, lnil c4]; exact bad5b od cd ol cl ob cb w nm _ (len0 c5)
  subst c3
  have e1 := lnil c1
  have e4 := lnil c4
  have e5 := lnil c5
  subst e1 e4 e5
  unfold May0
  rw [all_flat (by decide) (by simp [leanB, prT, eqF])]
  have := pass1 od cd ol cl ob cb w nm hs hTa
  simpa [withinB] using this
theorem may_k2 {od ol ob : Option Addr} {cd cl cb : Nat} {w : World} {neg : Bool} {d : List Nat} {nm : ByteArray} {n : Int} {l : List Tm} {b : List Nat} : May0 (.mk 2 neg d nm n l b) (tmV 2 neg (.slice od d.length cd) nm n (.slice ol l.length cl) (.slice ob b.length cb)) w := by
  by_cases c0 : neg = true
  · subst c0; unfold May0; rw [all_lean (by simp [leanB, prT, eqF])]; exact bad1a od cd ol cl ob cb w 2 _ nm n _ _ rfl
  have c0' : neg = false := by simpa using c0
  subst c0'
  by_cases c1 : (d.length : Int) = 0
  case neg => unfold May0; rw [all_lean (by have : d ≠ [] := (fun e => c1 (by rw [e]; rfl)); simp [leanB, prT, eqF, *])]; exact bad1b od cd ol cl ob cb w 2 _ nm n _ _ rfl (len0 c1)
  by_cases c2 : nm.toList = []
  case neg => unfold May0; rw [all_lean (by simp [leanB, prT, eqF, nil_noS, *])]; rw [lnil c1]; exact bad2b od cd ol cl ob cb w 2 nm n _ _ rfl rfl c2
  by_cases c4 : (l.length : Int) = 0
  case neg => unfold May0; rw [all_lean (by have : l ≠ [] := (fun e => c4 (by rw [e]; rfl)); simp [leanB, prT, eqF, nil_noS, *])]; rw [lnil c1]; exact bad4c od cd ol cl ob cb w nm n _ _ c2 (len0 c4)
  by_cases c5 : (b.length : Int) = 0
  case neg => unfold May0; rw [all_lean (by have : b ≠ [] := (fun e => c5 (by rw [e]; rfl)); simp [leanB, prT, eqF, nil_noS, *])]; rw [lnil c1, lnil c4]; exact bad5c od cd ol cl ob cb w nm n _ c2 (len0 c5)
  have e1 := lnil c1
  have e4 := lnil c4
  have e5 := lnil c5
  subst e1 e4 e5
  unfold May0
  rw [all_flat (by decide) (by simp [leanB, prT, eqF, nil_noS, *])]
  have := pass2 od cd ol cl ob cb w nm n c2
  simpa [withinB] using this
theorem may_k3 {od ol ob : Option Addr} {cd cl cb : Nat} {w : World} {neg : Bool} {d : List Nat} {nm : ByteArray} {n : Int} {l : List Tm} {b : List Nat} : May0 (.mk 3 neg d nm n l b) (tmV 3 neg (.slice od d.length cd) nm n (.slice ol l.length cl) (.slice ob b.length cb)) w := by
  by_cases c0 : neg = true
  · subst c0; unfold May0; rw [all_lean (by simp [leanB, prT, eqF])]; exact bad1a od cd ol cl ob cb w 3 _ nm n _ _ rfl
  have c0' : neg = false := by simpa using c0
  subst c0'
  by_cases c1 : (d.length : Int) = 0
  case neg => unfold May0; rw [all_lean (by have : d ≠ [] := (fun e => c1 (by rw [e]; rfl)); simp [leanB, prT, eqF, *])]; exact bad1b od cd ol cl ob cb w 3 _ nm n _ _ rfl (len0 c1)
  by_cases c2 : nm.toList = []
  case neg => unfold May0; rw [all_lean (by simp [leanB, prT, eqF, nil_noS, *])]; rw [lnil c1]; exact bad2b od cd ol cl ob cb w 3 nm n _ _ rfl rfl c2
  by_cases c4 : (l.length : Int) = 0
  case neg => unfold May0; rw [all_lean (by have : l ≠ [] := (fun e => c4 (by rw [e]; rfl)); simp [leanB, prT, eqF, nil_noS, *])]; rw [lnil c1]; exact bad4d od cd ol cl ob cb w nm n _ _ c2 (len0 c4)
  by_cases c5 : (b.length : Int) = 0
  case neg => unfold May0; rw [all_lean (by have : b ≠ [] := (fun e => c5 (by rw [e]; rfl)); simp [leanB, prT, eqF, nil_noS, *])]; rw [lnil c1, lnil c4]; exact bad5d od cd ol cl ob cb w nm n _ c2 (len0 c5)
  have e1 := lnil c1
  have e4 := lnil c4
  have e5 := lnil c5
  subst e1 e4 e5
  unfold May0
  rw [all_flat (by decide) (by simp [leanB, prT, eqF, nil_noS, *])]
  have := pass3 od cd ol cl ob cb w nm n c2
  simpa [withinB] using this
theorem may_k7 {od ol ob : Option Addr} {cd cl cb : Nat} {w : World} {neg : Bool} {d : List Nat} {nm : ByteArray} {n : Int} {l : List Tm} {b : List Nat} : May0 (.mk 7 neg d nm n l b) (tmV 7 neg (.slice od d.length cd) nm n (.slice ol l.length cl) (.slice ob b.length cb)) w := by
  by_cases c0 : neg = true
  · subst c0; unfold May0; rw [all_lean (by simp [leanB, prT, eqF])]; exact bad1a od cd ol cl ob cb w 7 _ nm n _ _ rfl
  have c0' : neg = false := by simpa using c0
  subst c0'
  by_cases c1 : (d.length : Int) = 0
  case neg => unfold May0; rw [all_lean (by have : d ≠ [] := (fun e => c1 (by rw [e]; rfl)); simp [leanB, prT, eqF, *])]; exact bad1b od cd ol cl ob cb w 7 _ nm n _ _ rfl (len0 c1)
  by_cases c2 : nm.toList = []
  case neg => unfold May0; rw [all_lean (by simp [leanB, prT, eqF, nil_noS, *])]; rw [lnil c1]; exact bad2b od cd ol cl ob cb w 7 nm n _ _ rfl rfl c2
  by_cases c3 : n = 0
  case neg => unfold May0; rw [all_lean (by simp [leanB, prT, eqF, nil_noS, *])]; rw [lnil c1]; exact bad3c od cd ol cl ob cb w 7 nm n _ _ rfl rfl rfl rfl c2 (ne_true c3)
  by_cases c4 : (l.length : Int) = 0
  case neg => unfold May0; rw [all_lean (by have : l ≠ [] := (fun e => c4 (by rw [e]; rfl)); simp [leanB, prT, eqF, nil_noS, *])]; subst c3; rw [lnil c1]; exact bad4e od cd ol cl ob cb w 7 nm _ _ rfl rfl rfl rfl rfl rfl c2 (len0 c4)
  subst c3
  have e1 := lnil c1
  have e4 := lnil c4
  subst e1 e4
  unfold May0
  rw [all_flat (by decide) (by simp [leanB, prT, eqF, nil_noS, *])]
  have := pass7 od cd ol cl ob cb w nm b.length c2
  simpa [withinB] using this
theorem may_kx {od ol ob : Option Addr} {cd cl cb : Nat} {w : World} {neg : Bool} {d : List Nat} {nm : ByteArray} {n : Int} {l : List Tm} {b : List Nat} {k : Int} (k0 : ¬ k = 0) (k1 : ¬ k = 1) (k2 : ¬ k = 2) (k3 : ¬ k = 3) (k4 : ¬ k = 4) (k6 : ¬ k = 6) (k7 : ¬ k = 7) : May0 (.mk k neg d nm n l b) (tmV k neg (.slice od d.length cd) nm n (.slice ol l.length cl) (.slice ob b.length cb)) w := by
  by_cases c0 : neg = true
  · subst c0; unfold May0; rw [all_lean (by simp [leanB, prT, eqF, *])]; exact bad1a od cd ol cl ob cb w k _ nm n _ _ (ne_true k0)
  have c0' : neg = false := by simpa using c0
  subst c0'
  by_cases c1 : (d.length : Int) = 0
  case neg => unfold May0; rw [all_lean (by have : d ≠ [] := (fun e => c1 (by rw [e]; rfl)); simp [leanB, prT, eqF, *])]; exact bad1b od cd ol cl ob cb w k _ nm n _ _ (ne_true k0) (len0 c1)
  by_cases c2 : nm.toList = []
  case neg => unfold May0; rw [all_lean (by simp [leanB, prT, eqF, nil_noS, *])]; rw [lnil c1]; exact bad2b od cd ol cl ob cb w k nm n _ _ (ne_true k0) (ne_true k1) c2
  by_cases c3 : n = 0
  case neg => unfold May0; rw [all_lean (by simp [leanB, prT, eqF, nil_noS, *])]; rw [lnil c1]; exact bad3c od cd ol cl ob cb w k nm n _ _ (ne_true k0) (ne_true k1) (ne_true k2) (ne_true k3) c2 (ne_true c3)
  by_cases c4 : (l.length : Int) = 0
  case neg => unfold May0; rw [all_lean (by have : l ≠ [] := (fun e => c4 (by rw [e]; rfl)); simp [leanB, prT, eqF, nil_noS, *])]; subst c3; rw [lnil c1]; exact bad4e od cd ol cl ob cb w k nm _ _ (ne_true k0) (ne_true k1) (ne_true k2) (ne_true k3) (ne_true k4) (ne_true k6) c2 (len0 c4)
  by_cases c5 : (b.length : Int) = 0
  case neg => unfold May0; rw [all_lean (by have : b ≠ [] := (fun e => c5 (by rw [e]; rfl)); simp [leanB, prT, eqF, nil_noS, *])]; subst c3; rw [lnil c1, lnil c4]; exact bad5g od cd ol cl ob cb w k nm _ (ne_true k0) (ne_true k1) (ne_true k2) (ne_true k3) (ne_true k4) (ne_true k6) (ne_true k7) c2 (len0 c5)
  subst c3
  have e1 := lnil c1
  have e4 := lnil c4
  have e5 := lnil c5
  subst e1 e4 e5
  unfold May0
  by_cases k5 : k = 5
  · subst k5
    rw [all_flat (by decide) (by simp [leanB, prT, eqF, nil_noS, *])]
    have := pass5 od cd ol cl ob cb w nm c2
    simpa [withinB] using this
  · rw [all_lean (by simp [leanB, prT, eqF, nil_noS, *])]
    exact passx od cd ol cl ob cb w k nm c2 (ne_true k0) (ne_true k1) (ne_true k2) (ne_true k3) (ne_true k4) (ne_true k6) (ne_true k7) (eq_false' k0) (eq_false' k1) (eq_false' k2) (eq_false' k3) (eq_false' k4) (eq_false' k5) (eq_false' k6) (eq_false' k7)
end Go.Proofs.YtjacoodfhkaioaaGreatDoor
namespace Go.Proofs.YtjacoodfhkaioaaGreatDoor
open Go.ChangeShapes Go.WideShapes Go.ChangeAt Go.RowKit Go.Shelf
set_option linter.unusedSimpArgs false
set_option linter.unusedVariables false
set_option maxRecDepth 2000
theorem all_partsL : ∀ l : List Tm, (partsL l).all fairB = l.all (fun t => (parts t).all fairB)
  | [] => by simp [partsL]
  | t :: l => by simp [partsL, all_partsL l]
set_option maxHeartbeats 4000000 in
set_option maxRecDepth 8000 in
theorem loop4 (od : Option Addr) (cd : Nat) (ol : Option Addr) (cl : Nat) (ob : Option Addr) (cb : Nat) (w : World) (nm : ByteArray) (l : List Tm) (hn : nm.toList = []) (h255 : (l.length : Int) ≤ 255) (htR : TR (Low w) w l ol) (hTa : Hid (Tabs w))
    (hIH : Hid (∀ (t : Tm) (v : Value) (w' : World), t ∈ l → TV (Low w') w' t v → Tabs w' → May0 t v w')) : MayC 4 false od 0 cd nm 0 ol l.length cl ob 0 cb w (l.all (fun t => (parts t).all fairB)) := by
  obtain ⟨kX, hBX, hz0⟩ := bx1 w (.int .i64 4) (.bool false) (.slice od 0 cd) (.string nm) (.int .i64 0) (.slice ol l.length cl) (.slice ob 0 cb) 27
  obtain ⟨R, hR⟩ : ∃ R, l.all (fun t => (parts t).all fairB) = R := ⟨_, rfl⟩
  unfold MayC
  rw [hR]
  have hHR := hid hR
  clear hR
  go_enter Tryz.func43, Tryz.ntmps43
  simp only [List.append_eq, List.cons_append, List.nil_append]
  go_wp2_with fail
  generalize (w.alloc (.cells #[.int .i64 4, .bool false, .slice od 0 cd, .string nm, .int .i64 0, .slice ol l.length cl, .slice ob 0 cb] 27)) = W0 at *
  go_loopg [3] l.length (fun t v3 wr => ∃ i : Nat, t + i = l.length ∧ v3 = .int .i64 (i : Int) ∧ Hid (∀ j x, j < i → l[j]? = some x → (parts x).all fairB = true) ∧ Bx w.heap.size (.int .i64 4) (.bool false) (.slice od 0 cd) (.string nm) (.int .i64 0) (.slice ol l.length cl) (.slice ob 0 cb) wr ∧ Below w.heap.size w wr)
  case atStart => exact ⟨0, by omega, rfl, hid (fun j x hj => by omega), kX, hBX⟩
  case round =>
    obtain ⟨i, hti, rfl, hH, kr, hBr⟩ := hrel
    clear kX hBX
    obtain ⟨x0, x1, x2, x3, x4, x5, x6⟩ := kr.res
    by_cases hil : i = l.length
    · subst hil
      have hRt : R = true := by
        rw [← hHR.out, List.all_eq_true]
        intro x hx
        obtain ⟨j, hj, he⟩ := List.getElem_of_mem hx
        exact hH.out j x hj (by rw [List.getElem?_eq_getElem hj, he])
      subst hRt
      clear hHR
      go_wp2
      go_ret
      exact ⟨rfl, hBr⟩
    · have hil' : i < l.length := by omega
      have hii : ((i : Nat) : Int) < ((l.length : Nat) : Int) := by omega
      obtain ⟨t, ht⟩ : ∃ t, l[i]? = some t := ⟨l[i], by simp [hil']⟩
      obtain ⟨a, k', neg', od', ld', cd', nm', n', ol', ll', cl', ob', lb', cb', rfl, hTv', y0, y1, y2, y3, y4, y5, y6⟩ := htR.get ht hBr
      have hHt := hid ht
      have hI := hIH.out t _ wr (List.mem_of_getElem? ht) hTv' (hTa.out.below hBr)
      have hHI := hid hI
      clear ht hI hTv'
      go_wp2_with fail
      refine hHI.out.mono ?_
      rintro e w2 ⟨rfl, b2⟩
      have hB2 := below_and hBr (Nat.le_refl _) b2
      have k2 := kr.below b2
      obtain ⟨bb, hbb⟩ : ∃ bb, (parts t).all fairB = bb := ⟨_, rfl⟩
      rw [hbb]
      have hHb := hid hbb
      clear hbb hHI x0 x1 x2 x3 x4 x5 x6 y0 y1 y2 y3 y4 y5 y6 b2 hBr kr
      cases bb with
      | false =>
        have hRf : R = false := by
          rw [← hHR.out]
          cases hq : l.all (fun t => (parts t).all fairB) with
          | false => rfl
          | true =>
            rw [List.all_eq_true] at hq
            have := hq t (List.mem_of_getElem? hHt.out)
            rw [hHb.out] at this; simp at this
        subst hRf
        clear hHR
        go_wp2
        go_ret
        exact ⟨rfl, hB2⟩
      | true =>
        go_wp2
        go_roundg (l.length - (i + 1))
        case measure => omega
        case rel =>
          refine ⟨i + 1, by omega, by go_num, hid (fun j x hj hx => ?_), k2, hB2⟩
          rcases Nat.lt_or_ge j i with h | h
          · exact hH.out j x h hx
          · have : j = i := by omega
            subst this
            rw [hHt.out] at hx
            injection hx with hx; subst hx
            exact hHb.out
set_option maxHeartbeats 4000000 in
set_option maxRecDepth 8000 in
theorem loop6 (od : Option Addr) (cd : Nat) (ol : Option Addr) (cl : Nat) (ob : Option Addr) (cb : Nat) (w : World) (nm : ByteArray) (l : List Tm) (hn : nm.toList = []) (h2 : ((l.length : Int) != 2) = false) (h255 : (l.length : Int) ≤ 255) (htR : TR (Low w) w l ol) (hTa : Hid (Tabs w))
    (hIH : Hid (∀ (t : Tm) (v : Value) (w' : World), t ∈ l → TV (Low w') w' t v → Tabs w' → May0 t v w')) : MayC 6 false od 0 cd nm 0 ol l.length cl ob 0 cb w (l.all (fun t => (parts t).all fairB)) := by
  obtain ⟨kX, hBX, hz0⟩ := bx1 w (.int .i64 6) (.bool false) (.slice od 0 cd) (.string nm) (.int .i64 0) (.slice ol l.length cl) (.slice ob 0 cb) 27
  obtain ⟨R, hR⟩ : ∃ R, l.all (fun t => (parts t).all fairB) = R := ⟨_, rfl⟩
  unfold MayC
  rw [hR]
  have hHR := hid hR
  clear hR
  go_enter Tryz.func43, Tryz.ntmps43
  simp only [List.append_eq, List.cons_append, List.nil_append]
  go_wp2_with fail
  generalize (w.alloc (.cells #[.int .i64 6, .bool false, .slice od 0 cd, .string nm, .int .i64 0, .slice ol l.length cl, .slice ob 0 cb] 27)) = W0 at *
  go_loopg [3] l.length (fun t v3 wr => ∃ i : Nat, t + i = l.length ∧ v3 = .int .i64 (i : Int) ∧ Hid (∀ j x, j < i → l[j]? = some x → (parts x).all fairB = true) ∧ Bx w.heap.size (.int .i64 6) (.bool false) (.slice od 0 cd) (.string nm) (.int .i64 0) (.slice ol l.length cl) (.slice ob 0 cb) wr ∧ Below w.heap.size w wr)
  case atStart => exact ⟨0, by omega, rfl, hid (fun j x hj => by omega), kX, hBX⟩
  case round =>
    obtain ⟨i, hti, rfl, hH, kr, hBr⟩ := hrel
    clear kX hBX
    obtain ⟨x0, x1, x2, x3, x4, x5, x6⟩ := kr.res
    by_cases hil : i = l.length
    · subst hil
      have hRt : R = true := by
        rw [← hHR.out, List.all_eq_true]
        intro x hx
        obtain ⟨j, hj, he⟩ := List.getElem_of_mem hx
        exact hH.out j x hj (by rw [List.getElem?_eq_getElem hj, he])
      subst hRt
      clear hHR
      go_wp2
      go_ret
      exact ⟨rfl, hBr⟩
    · have hil' : i < l.length := by omega
      have hii : ((i : Nat) : Int) < ((l.length : Nat) : Int) := by omega
      obtain ⟨t, ht⟩ : ∃ t, l[i]? = some t := ⟨l[i], by simp [hil']⟩
      obtain ⟨a, k', neg', od', ld', cd', nm', n', ol', ll', cl', ob', lb', cb', rfl, hTv', y0, y1, y2, y3, y4, y5, y6⟩ := htR.get ht hBr
      have hHt := hid ht
      have hI := hIH.out t _ wr (List.mem_of_getElem? ht) hTv' (hTa.out.below hBr)
      have hHI := hid hI
      clear ht hI hTv'
      go_wp2_with fail
      refine hHI.out.mono ?_
      rintro e w2 ⟨rfl, b2⟩
      have hB2 := below_and hBr (Nat.le_refl _) b2
      have k2 := kr.below b2
      obtain ⟨bb, hbb⟩ : ∃ bb, (parts t).all fairB = bb := ⟨_, rfl⟩
      rw [hbb]
      have hHb := hid hbb
      clear hbb hHI x0 x1 x2 x3 x4 x5 x6 y0 y1 y2 y3 y4 y5 y6 b2 hBr kr
      cases bb with
      | false =>
        have hRf : R = false := by
          rw [← hHR.out]
          cases hq : l.all (fun t => (parts t).all fairB) with
          | false => rfl
          | true =>
            rw [List.all_eq_true] at hq
            have := hq t (List.mem_of_getElem? hHt.out)
            rw [hHb.out] at this; simp at this
        subst hRf
        clear hHR
        go_wp2
        go_ret
        exact ⟨rfl, hB2⟩
      | true =>
        go_wp2
        go_roundg (l.length - (i + 1))
        case measure => omega
        case rel =>
          refine ⟨i + 1, by omega, by go_num, hid (fun j x hj hx => ?_), k2, hB2⟩
          rcases Nat.lt_or_ge j i with h | h
          · exact hH.out j x h hx
          · have : j = i := by omega
            subst this
            rw [hHt.out] at hx
            injection hx with hx; subst hx
            exact hHb.out
set_option maxHeartbeats 4000000 in
set_option maxRecDepth 8000 in
theorem long4 (od : Option Addr) (cd : Nat) (ol : Option Addr) (ll cl : Nat) (ob : Option Addr) (cb : Nat) (w : World) (nm : ByteArray) (hn : nm.toList = []) (h255 : (255 : Int) < (ll : Int)) : MayC 4 false od 0 cd nm 0 ol ll cl ob 0 cb w false := by
  go_enter Tryz.func43, Tryz.ntmps43
  simp only [List.append_eq, List.cons_append, List.nil_append]
  go_wp2
  go_ret
  exact ⟨rfl, (Below.refl _ w).alloc (Nat.le_refl _) _⟩
set_option maxHeartbeats 4000000 in
set_option maxRecDepth 8000 in
theorem long6 (od : Option Addr) (cd : Nat) (ol : Option Addr) (ll cl : Nat) (ob : Option Addr) (cb : Nat) (w : World) (nm : ByteArray) (hn : nm.toList = []) (h2 : ((ll : Int) != 2) = true) : MayC 6 false od 0 cd nm 0 ol ll cl ob 0 cb w false := by
  go_enter Tryz.func43, Tryz.ntmps43
  simp only [List.append_eq, List.cons_append, List.nil_append]
  go_wp2
  go_ret
  exact ⟨rfl, (Below.refl _ w).alloc (Nat.le_refl _) _⟩
end Go.Proofs.YtjacoodfhkaioaaGreatDoor
