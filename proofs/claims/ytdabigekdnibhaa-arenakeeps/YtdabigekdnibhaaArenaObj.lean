/- What Objects answers, the program's and the reference's. -/
import Derived.Test.YtdabigekdnibhaaArenaRef
import Derived.Test.YtdabigekdnibhaaWordHeadWalks
namespace Go.Proofs.Ytdabigekdnibhaa
open Go.ChangeShapes Go.WideShapes Go.ChangeAt Go.RowKit
set_option linter.unusedSimpArgs false
set_option linter.unusedVariables false
set_option maxRecDepth 2000

/-- the places of the objects from a place on, if they are a row of objects -/
def ob (l : List Int) (k : Nat) : Option (List Nat) :=
  if k < l.length then
    if isV (l.getD k 0) = true then (ob l (k + 1 + (rs (l.getD k 0)).toNat)).map (k :: ·) else none
  else if k = l.length then some [] else none
termination_by l.length - k
theorem ob_end {l : List Int} : ob l l.length = some [] := by rw [ob]; simp
theorem ob_past {l : List Int} {k : Nat} (h : l.length < k) : ob l k = none := by rw [ob]; rw [if_neg (by omega), if_neg (by omega)]
theorem ob_no {l : List Int} {k : Nat} {x : Int} (h : l[k]? = some x) (hv : isV x = false) : ob l k = none := by
  rw [ob, if_pos (List.getElem?_eq_some_iff.1 h).1]
  have : l.getD k 0 = x := by simp [List.getD, h]
  rw [this, hv]; simp
theorem ob_yes {l : List Int} {k r : Nat} {x : Int} (h : l[k]? = some x) (hv : isV x = true) (hr : rs x = (r : Int)) : ob l k = (ob l (k + 1 + r)).map (k :: ·) := by
  rw [ob, if_pos (List.getElem?_eq_some_iff.1 h).1]
  have : l.getD k 0 = x := by simp [List.getD, h]
  rw [this, hv, hr]; simp
theorem rs_nat {x : Int} (h : 0 ≤ x) : ∃ r : Nat, rs x = (r : Int) ∧ r < 1048576 := by
  refine ⟨(rs x).toNat, ?_, ?_⟩
  all_goals (unfold rs; split <;> omega)
/-- places in a row -/
abbrev RowI (v : Value) (cs : List Nat) (w : World) : Prop := w.ownsRow 0 3 1 v cs.length (cs.map fun (x : Nat) => Value.int .i64 (x : Int))
theorem RowI.of_block {v : Value} {ns : List Nat} {w w' : World} (h : RowI v ns w) (hb : ∀ k, v.ownBlock = some k → w'.heap[k]? = w.heap[k]?) : RowI v ns w' := by
  obtain ⟨h1, h2 | ⟨g, cap, cur, rfl, hg, hc, rest⟩⟩ := h
  · exact ⟨h1, .inl h2⟩
  · exact ⟨h1, .inr ⟨g, cap, cur, rfl, hg, (hb g rfl).trans hc, rest⟩⟩
theorem RowI.lt {v : Value} {ns : List Nat} {w : World} (h : RowI v ns w) : ∀ k, v.ownBlock = some k → k < w.heap.size := fun k hk => (World.ownsRow.lt h k hk).2
theorem RowI.below {v : Value} {ns : List Nat} {w w' : World} (h : RowI v ns w) (hb : Below w.heap.size w w') : RowI v ns w' := h.of_block fun k e => hb.block k (h.lt k e)
theorem RowI.shape {v : Value} {ns : List Nat} {w : World} (h : RowI v ns w) : ∃ o c, v = .slice o ns.length c ∧ ns.length ≤ c ∧ ∀ (j s : Nat), ns[j]? = some s → ∃ a, o = some a ∧ w.cell? (a.add j) = some (.int .i64 (s : Int)) := by
  have h0 := h
  obtain ⟨h1, ⟨rfl, h2⟩ | ⟨g, cap, cur, rfl, hg, hc, hn, rest⟩⟩ := h
  · have : ns = [] := List.eq_nil_of_length_eq_zero h2
    subst this
    exact ⟨none, 0, rfl, Nat.le_refl _, fun j s hs => by simp at hs⟩
  · refine ⟨_, cap, rfl, hn, fun j s hs => ⟨_, rfl, ?_⟩⟩
    exact h0.cells (g := g) rfl j _ (by simp [hs])
theorem one_cell (w : World) (v : Value) (t : TypeId) : ∀ j u, [v][j]? = some u → (w.alloc (.cells #[v] t)).cell? ((⟨w.heap.size, 0, none⟩ : Addr).add j) = some u := by
  intro j u hu
  match j with
  | 0 =>
    simp at hu; subst hu
    rw [addr_add, World.cell?_alloc_mark]; rfl
  | j + 1 => simp at hu
/-- append(places, at): one place more -/
theorem append_place (w : World) (ty : TypeId) (v : Value) (ps : List Nat) (k : Nat) (hR : RowI v ps w) (hl : ps.length ≤ 4000000) :
    ∃ v' w', (Builtin.append_ #[36, 36] ty #[v, .slice (some ⟨w.heap.size, 0, none⟩) 1 1]).run Try.prog (w.alloc (.cells #[.int .i64 (k : Int)] 3)) = .ok v' w' ∧ RowI v' (ps ++ [k]) w' ∧ w.grownBy w' v.ownBlock ∧ (∀ q, v'.ownBlock = some q → v.ownBlock = some q ∨ w.heap.size ≤ q) ∧ ∃ o c, v' = .slice o (ps.length + 1) c := by
  obtain ⟨i0, hi, hy0, hy1, hy2⟩ := info_parts infoI
  have hR1 := World.ownsRow.alloc hR (.cells #[.int .i64 (k : Int)] 3)
  obtain ⟨v', w', hr, hown, hg, _, hat⟩ := run_append_own_at (P := Try.prog) (w.alloc (.cells #[.int .i64 (k : Int)] 3)) 0 36 ty 3 i0 (.int .i64 0) 1 8 Try.underlying36 hi hy0 hy1 hy2 rfl (by decide) v ps.length _ hR1 ⟨w.heap.size, 0, none⟩ 1 1 [.int .i64 (k : Int)] rfl (one_cell _ _ _) (by intro u hu; simp at hu; subst hu; rfl) (by unfold maxLen; omega) (by omega) (Nat.zero_le _)
  have hR' : RowI v' (ps ++ [k]) w' := by
    unfold RowI
    rw [List.map_append, List.length_append]
    exact hown
  obtain ⟨o, c, e, _⟩ := hR'.shape
  refine ⟨v', w', hr, hR', (World.grownBy_alloc w _ _).trans hg, fun q e => ?_, o, c, by rw [e, List.length_append]; rfl⟩
  rcases hat with e1 | e1
  · exact .inl (by rw [← e1]; exact e)
  · rw [e1] at e; injection e with e; simp at e; exact .inr (by omega)
theorem hdr_new {w W : World} {a b c d : Value} {t : TypeId} (h : (w.alloc (.cells #[a, b, c, d] t)).alloc (.cells #[a, b, c, d] t) = W) : Below w.heap.size w W ∧ W.cell? ⟨w.heap.size + 1, 1, none⟩ = some b ∧ w.heap.size + 1 < W.heap.size := by
  subst h
  have hs : (w.alloc (.cells #[a, b, c, d] t)).heap.size = w.heap.size + 1 := by simp
  refine ⟨((Below.refl _ w).alloc (Nat.le_refl _) _).alloc (by simp) _, ?_, by simp⟩
  rw [← hs, World.cell?_alloc_mark]; rfl
theorem opt_pre {o : Option (List Nat)} {ps : List Nat} : o.map ((ps ++ ·) : List Nat → List Nat) = none ↔ o = none := by simp
theorem ob_step {l : List Int} {ps : List Nat} {k k' : Nat} (h : ob l 0 = (ob l k).map (ps ++ ·)) (e : ob l k = (ob l k').map (k :: ·)) : ob l 0 = (ob l k').map ((ps ++ [k]) ++ ·) := by
  rw [h, e]
  cases ob l k' <;> simp
set_option maxHeartbeats 2000000 in
theorem objects_w (g : Nat) (F : Nat → Prop) (l : List Int) (n : Nat) (w : World) (h : Arn g F l n w) (hwf : ∀ x ∈ l, (Lit.int .u64 x).wf = true) :
    Calls Try.prog 13 #[.pointer (some ⟨g, 0, none⟩)] w fun e w' => ∃ v, e = .returned (.tuple #[v, .bool (ob l 0).isSome]) ∧ RowI v ((ob l 0).getD []) w' ∧ Below w.heap.size w w' := by
  have hn : l.length ≤ 1048576 := by obtain ⟨_, _, _, _, a, b, _⟩ := h; omega
  have hnn : (l.length : Int) ≤ (n : Int) := by obtain ⟨_, _, _, _, a, b, _⟩ := h; omega
  obtain ⟨R, hR⟩ : ∃ R, ob l 0 = R := ⟨_, rfl⟩
  rw [hR]
  have hRH := hid hR
  clear hR
  go_enter Try.func13, Try.ntmps13
  go_wp2_with fail
  go_loopw [4, 5] (fun v4 v5 wr => ∃ (ps : List Nat) (k : Nat), v5 = .int .i64 (k : Int) ∧ k ≤ 3000000 ∧ ps.length ≤ k ∧ RowI v4 ps wr ∧ (∀ q, v4.ownBlock = some q → w.heap.size ≤ q) ∧ Below w.heap.size w wr ∧ Hid (ob l 0 = (ob l k).map (ps ++ ·))) (fun _ v _ => l.length - (intOf v).toNat)
  case atStart => exact ⟨[], 0, rfl, Nat.zero_le _, Nat.le_refl _, World.ownsRow_nil _ _ _ _, by simp [Value.ownBlock], Below.refl _ _, hid (by simp)⟩
  case round =>
    obtain ⟨ps, k, rfl, hk, hpk, hRI, hbl, bw, hO⟩ := hrel
    obtain ⟨b, ⟨c0, c1, f0, f1⟩, hBk, hne, hln, hnm, p0, p1, p3⟩ := h.below bw
    obtain ⟨o4, c4, rfl, _⟩ := hRI.shape
    by_cases hkl : k < l.length
    · have hklz : (k : Int) < (l.length : Int) := by omega
      have hkn : (k : Int) < (n : Int) := by omega
      obtain ⟨x, hx⟩ : ∃ x, l[k]? = some x := ⟨l[k], by simp⟩
      have hcr := hBk.cell (j := k) (x := x) (by rw [List.getElem?_append_left hkl]; exact hx)
      have hxw := hwf x (List.mem_of_getElem? hx)
      have hx0 : 0 ≤ x := by have := bdu64 hxw; omega
      obtain ⟨r, hr, hr2⟩ := rs_nat hx0
      have c := read_w x hxw wr
      rw [hr] at c
      cases hv : isV x
      · have hno := hid (ob_no hx hv)
        rw [hv] at c
        clear hr hx hBk hxw hv
        go_wp2_with fail
        refine c.mono ?_
        rintro e w1 ⟨rfl, rfl⟩
        go_upto_region 7 with fail
        generalize hW : World.alloc (World.alloc wr _) _ = W
        obtain ⟨bW, cW, sW⟩ := hdr_new hW
        clear hW
        have e : R = none := by rw [← hRH.out, hO.out, hno.out]; rfl
        subst e
        go_wp2
        go_ret2
        exact ⟨_, rfl, World.ownsRow_nil _ _ _ _, bw.trans (below_le bW bw.size)⟩
      · have hyes := hid (ob_yes hx hv hr)
        rw [hv] at c
        clear hr hx hBk hxw hv
        go_wp2_with fail
        refine c.mono ?_
        rintro e w1 ⟨rfl, rfl⟩
        go_upto_region 9 with fail
        generalize hW : World.alloc (World.alloc wr _) _ = W
        obtain ⟨bW, cW, sW⟩ := hdr_new hW
        clear hW
        obtain ⟨v', w2, hap, hR2, gA, hbl2, o5, c5, rfl⟩ := append_place W 36 _ ps k (hRI.below bW) (by omega)
        have cW2 : w2.cell? ⟨wr.heap.size + 1, 1, none⟩ = some (.int .i64 (r : Int)) := gA.cell cW (fun e => by have := hRI.lt _ e.symm; simp at this; omega)
        have bT : Below w.heap.size w w2 := (bw.trans (below_le bW bw.size)).grown gA (by have := bw.size; have := bW.size; omega) hbl
        have hbl3 : ∀ q, (Value.slice o5 (ps.length + 1) c5).ownBlock = some q → w.heap.size ≤ q := fun q e => (hbl2 q e).elim (hbl q) (fun e => by have := bw.size; have := bW.size; omega)
        have e1 : Hid ((k : Int) + (1 + (r : Int)) = ((k + 1 + r : Nat) : Int)) := hid (by omega)
        clear gA hbl2 cW bW c0 c1 f0 f1 hcr hbl hRI c
        go_wp2_with (at_builtin; refine Lib.wpList_append_run _ rfl _ _ _ _ rfl _ _ rfl rfl _ _ hap ?_)
        rw [e1.out]
        exact ⟨⟨ps ++ [k], k + 1 + r, rfl, by omega, by simp; omega, hR2, hbl3, bT, hid (ob_step hO.out hyes.out)⟩, by simp [intOf]; omega⟩
    · have hklz : ¬ (k : Int) < (l.length : Int) := by omega
      by_cases hke : k = l.length
      · have hq : ((k : Int) != (l.length : Int)) = false := by simp; omega
        have e : R = some ps := by rw [← hRH.out, hO.out, hke, ob_end]; simp
        subst e
        clear hke
        go_wp2
        go_ret2
        exact ⟨_, rfl, hRI, bw⟩
      · have hq : ((k : Int) != (l.length : Int)) = true := by simp; omega
        have e : R = none := by rw [← hRH.out, hO.out, ob_past (by omega)]; rfl
        subst e
        clear hke
        go_wp2
        go_ret2
        exact ⟨_, rfl, World.ownsRow_nil _ _ _ _, bw⟩
set_option maxHeartbeats 2000000 in
theorem robjects_w (g : Nat) (F : Nat → Prop) (l : List Int) (n : Nat) (w : World) (h : Mm g F l n w) (hwf : ∀ x ∈ l, (Lit.int .u64 x).wf = true) :
    Calls Try.prog 27 #[.pointer (some ⟨g, 0, none⟩)] w fun e w' => ∃ v, e = .returned (.tuple #[v, .bool (ob l 0).isSome]) ∧ RowI v ((ob l 0).getD []) w' ∧ Below w.heap.size w w' := by
  have hn : l.length ≤ 1048576 := by obtain ⟨_, _, _, _, a, b, _⟩ := h; omega
  obtain ⟨R, hR⟩ : ∃ R, ob l 0 = R := ⟨_, rfl⟩
  rw [hR]
  have hRH := hid hR
  clear hR
  go_enter Try.func27, Try.ntmps27
  go_wp2_with fail
  go_loopw [4, 5] (fun v4 v5 wr => ∃ (ps : List Nat) (k : Nat), v5 = .int .i64 (k : Int) ∧ k ≤ l.length ∧ ps.length ≤ k ∧ RowI v4 ps wr ∧ (∀ q, v4.ownBlock = some q → w.heap.size ≤ q) ∧ Below w.heap.size w wr ∧ Hid (ob l 0 = (ob l k).map (ps ++ ·))) (fun _ v _ => l.length - (intOf v).toNat)
  case atStart => exact ⟨[], 0, rfl, Nat.zero_le _, Nat.le_refl _, World.ownsRow_nil _ _ _ _, by simp [Value.ownBlock], Below.refl _ _, hid (by simp)⟩
  case round =>
    obtain ⟨ps, k, rfl, hk, hpk, hRI, hbl, bw, hO⟩ := hrel
    obtain ⟨b, ⟨c0, c1, f0, f1⟩, hRW, hne, hln, hnm, p0, p1, p3⟩ := h.below bw
    obtain ⟨oW, cW, rfl, _, hLW⟩ := hRW.shape
    obtain ⟨o4, c4, rfl, _⟩ := hRI.shape
    by_cases hkl : k < l.length
    · have hklz : (k : Int) < (l.length : Int) := by omega
      obtain ⟨x, hx⟩ : ∃ x, l[k]? = some x := ⟨l[k], by simp⟩
      obtain ⟨aW, rfl, hcr⟩ := hLW k x hx
      have hxw := hwf x (List.mem_of_getElem? hx)
      have hx0 : 0 ≤ x := by have := bdu64 hxw; omega
      obtain ⟨r, hr, hr2⟩ := rs_nat hx0
      have c := rread_w x hxw wr
      rw [hr] at c
      cases hv : isV x
      · have hno := hid (ob_no hx hv)
        rw [hv] at c
        clear hr hx hxw hv hRW hLW
        go_wp2_with fail
        refine c.mono ?_
        rintro e w1 ⟨rfl, rfl⟩
        go_upto_region 5 with fail
        generalize hW : World.alloc (World.alloc wr _) _ = W
        obtain ⟨bW, cW, sW⟩ := hdr_new hW
        clear hW
        have e : R = none := by rw [← hRH.out, hO.out, hno.out]; rfl
        subst e
        go_quiet (fail)
        go_wp2
        go_ret2
        exact ⟨_, rfl, World.ownsRow_nil _ _ _ _, bw.trans (below_le (bW.trans (below_le (below_drewN W _) (by omega))) bw.size)⟩
      · have hyes := hid (ob_yes hx hv hr)
        rw [hv] at c
        clear hr hx hxw hv hRW hLW
        have e0 : IntKind.i64.wrap (IntKind.i64.wrap ((l.length : Int) - (k : Int)) - 1) = (l.length : Int) - (k : Int) - 1 := by rw [IntKind.wrap_i64, IntKind.wrap_i64]; omega
        go_wp2_with fail
        refine c.mono ?_
        rintro e w1 ⟨rfl, rfl⟩
        go_upto_region 5 with fail
        generalize hW : World.alloc (World.alloc wr _) _ = W
        obtain ⟨bW, cW, sW⟩ := hdr_new hW
        have d0 := (bW.cell (World.block_lt_of_cell? _ _ c0)).trans c0
        clear hW
        by_cases hlim : (l.length : Int) - (k : Int) - 1 < (r : Int)
        · have e : R = none := by rw [← hRH.out, hO.out, hyes.out, ob_past (by omega)]; rfl
          subst e
          go_quiet (fail)
          go_wp2
          go_ret2
          exact ⟨_, rfl, World.ownsRow_nil _ _ _ _, bw.trans (below_le (bW.trans (below_le (below_drewN W _) (by omega))) bw.size)⟩
        · go_quiet (fail)
          have bq := below_drewN W nq
          have cWq : (W.drewN nq).cell? ⟨wr.heap.size + 1, 1, none⟩ = some (.int .i64 (r : Int)) := (bq.cell (p := ⟨wr.heap.size + 1, 1, none⟩) sW).trans cW
          have bWq : Below wr.heap.size wr (W.drewN nq) := bW.trans (below_le bq (by omega))
          clear d0 bq
          generalize W.drewN nq = V at *
          obtain ⟨v', w2, hap, hR2, gA, hbl2, o5, c5, rfl⟩ := append_place V 36 _ ps k (hRI.below bWq) (by omega)
          have cW2 : w2.cell? ⟨wr.heap.size + 1, 1, none⟩ = some (.int .i64 (r : Int)) := gA.cell cWq (fun e => by have := hRI.lt _ e.symm; simp at this; omega)
          have bT : Below w.heap.size w w2 := (bw.trans (below_le bWq bw.size)).grown gA (by have := bw.size; have := bWq.size; omega) hbl
          have hbl3 : ∀ q, (Value.slice o5 (ps.length + 1) c5).ownBlock = some q → w.heap.size ≤ q := fun q e => (hbl2 q e).elim (hbl q) (fun e => by have := bw.size; have := bWq.size; omega)
          have e1 : Hid ((k : Int) + 1 + (r : Int) = ((k + 1 + r : Nat) : Int)) := hid (by omega)
          have hlr : (k : Int) + 1 + (r : Int) ≤ (l.length : Int) := by omega
          clear gA hbl2 cW bW c0 c1 f0 f1 hcr hbl hRI c cWq bWq
          go_wp2_with (at_builtin; refine Lib.wpList_append_run _ rfl _ _ _ _ rfl _ _ rfl rfl _ _ hap ?_)
          rw [e1.out]
          exact ⟨⟨ps ++ [k], k + 1 + r, rfl, by omega, by simp; omega, hR2, hbl3, bT, hid (ob_step hO.out hyes.out)⟩, by simp [intOf]; omega⟩
    · have hklz : ¬ (k : Int) < (l.length : Int) := by omega
      have e : R = some ps := by rw [← hRH.out, hO.out, show k = l.length by omega, ob_end]; simp
      subst e
      go_wp2
      go_ret2
      exact ⟨_, rfl, hRI, bw⟩
end Go.Proofs.Ytdabigekdnibhaa
