/- Reverse of the reference: for every text what the signs say. -/
import Derived.Test.YtppfgcbigohkkaaDoorRunesRQuote
import Derived.Laws.AppendOwn
namespace Go.Proofs.YtppfgcbigohkkaaDoor
open Go.ChangeShapes Go.WideShapes Go.ChangeAt Go.RowKit Go.Shelf
set_option linter.unusedSimpArgs false
set_option linter.unusedVariables false

theorem info32 : (Tryd.prog.info? 21).map (fun i => (i.zero, i.size, i.bytes)) = some (some (.int .i32 0), 1, 4) := by kernel_rfl
/-- A row of signs of the call's own. -/
def OwnR (B : Nat) (v : Value) (rs : List Nat) (w : World) : Prop := w.ownsRow B 21 1 v rs.length (rs.map fun (r : Nat) => Value.int .i32 (r : Int))
theorem OwnR.nil (B : Nat) (w : World) : OwnR B (.slice none 0 0) [] w := World.ownsRow_nil _ _ _ _
theorem OwnR.shape {B : Nat} {v : Value} {rs : List Nat} {w : World} (h : OwnR B v rs w) : ∃ ao cap, v = .slice ao rs.length cap := by
  rcases h.2 with ⟨hv, h0⟩ | ⟨g, cap, cur, hv, _⟩
  · exact ⟨none, 0, by rw [hv, h0]⟩
  · exact ⟨_, _, hv⟩
theorem OwnR.drewN {B : Nat} {v : Value} {rs : List Nat} {w : World} (h : OwnR B v rs w) (n : Nat) : OwnR B v rs (w.drewN n) := by
  have hh : ∀ n, (w.drewN n).heap = w.heap := by
    intro n
    induction n with
    | zero => rfl
    | succ n ih => exact ih
  refine ⟨h.1, ?_⟩
  rcases h.2 with hn | ⟨g, cap, cur, hv, hb, hg, rest⟩
  · exact .inl hn
  · exact .inr ⟨g, cap, cur, hv, hb, by rw [hh]; exact hg, rest⟩
theorem OwnR.below {B : Nat} {v : Value} {rs : List Nat} {w w' : World} (h : OwnR B v rs w) (hb : Below w.heap.size w w') : OwnR B v rs w' := by
  refine ⟨h.1, ?_⟩
  rcases h.2 with hn | ⟨g, cap, cur, hv, hbg, hg, rest⟩
  · exact .inl hn
  · exact .inr ⟨g, cap, cur, hv, hbg, (hb.block g (lt_of_heap hg)).trans hg, rest⟩
theorem OwnR.string {B : Nat} {v : Value} {rs : List Nat} {w : World} (h : OwnR B v rs w) (ho : okRs rs) : (convert 42 9 v).run Tryd.prog w = .ok (.string ⟨(en rs).toArray⟩) w := by
  rcases id h.2 with ⟨hv, h0⟩ | ⟨g, cap, cur, hv, hb, hg, hnc, hcm, hcs, htake⟩
  · have : rs = [] := List.eq_nil_of_length_eq_zero h0
    subst this
    rw [hv, run_convert_runes_nil w 42 9 21 0 0 Tryd.underlying42 Tryd.underlying21 Tryd.underlying9]
    rfl
  · rw [hv]
    refine string_of_runes g rs.length cap rs w ho ?_ rfl
    intro j r hj
    rw [Lib.cell_of_heap hg, ← Array.getElem?_toList]
    have hj' : j < rs.length := (List.getElem?_eq_some_iff.1 hj).1
    have := congrArg (·[j]?) htake
    simp only [List.getElem?_take, List.getElem?_map, hj, Option.map_some, Nat.mul_one, if_pos hj'] at this
    exact this

set_option maxHeartbeats 4000000 in
theorem rreverse_w (s : ByteArray) (w : World) (hs : s.size ≤ 1000000) (hT : Tabs w) :
    Calls Tryd.prog 22 #[.string s] w fun e w' => e = .returned (.string ⟨(reverseL s.data.toList).toArray⟩) ∧ Below w.heap.size w w' := by
  obtain ⟨R, hR⟩ : ∃ R, reverseL s.data.toList = R := ⟨_, rfl⟩
  rw [hR]
  unfold reverseL at hR
  by_cases hv : Lib.validD s.data.toList = true
  · rw [if_pos hv] at hR
    have hle := sg_le s.data.toList
    have hz : s.data.toList.length = s.size := rfl
    have hok := okRs_sg s.data.toList
    obtain ⟨i0, hi, hz0, hz1, hz2⟩ := info_parts info32
    go_enter Tryd.func22, Tryd.ntmps22
    go_wp2_with fail
    refine (rvalid_w s _ (by omega) hT.1).mono ?_
    rintro e w1 ⟨rfl, b1⟩
    obtain ⟨ca, W1, k1, B1, r1, z1⟩ := runes_conv s w1 hs
    have B1' : Below w.heap.size w W1 := b1.trans (below_le B1 b1.size)
    generalize sg s.data.toList = X at *
    have hlt : w1.heap.size < W1.heap.size := by omega
    clear b1 B1 z1
    generalize w1.heap.size = g at *
    go_wp2
    go_loopw [3, 5] (fun v i wr => ∃ (k : Nat), i = .int .i64 ((k : Int) - 1) ∧ k ≤ X.length ∧ OwnR W1.heap.size v (X.drop k).reverse wr ∧ Below W1.heap.size W1 wr) (fun _ i _ => (intOf i + 1).toNat)
    case atStart => exact ⟨X.length, by go_num, Nat.le_refl _, by simpa using OwnR.nil _ _, Below.refl _ _⟩
    case round =>
      obtain ⟨k, rfl, hk, hown, hbw⟩ := hrel
      have hX : ∀ (j r : Nat), X[j]? = some r → wr.cell? ⟨g, j, none⟩ = some (.int .i32 (r : Int)) := fun j r hj => r1.below hbw j r hj
      by_cases h0 : k = 0
      · subst h0
        have hst := OwnR.string hown (fun r hr => hok r (by simpa using hr))
        simp only [List.drop_zero] at hst
        rw [hR] at hst
        go_wp2
        go_ret
        exact ⟨rfl, B1'.trans (below_le hbw B1'.size)⟩
      · obtain ⟨m, rfl⟩ : ∃ m, k = m + 1 := ⟨k - 1, by omega⟩
        obtain ⟨r, hr⟩ : ∃ r, X[m]? = some r := ⟨X[m]'(by omega), by simp⟩
        have cr := hX m r hr
        have e1 : (((m + 1 : Nat) : Int) - 1) = (m : Int) := by omega
        have hml : (m : Int) < (X.length : Int) := by omega
        have hdr : Hid ((X.drop m).reverse = (X.drop (m + 1)).reverse ++ [r]) := hid (by
          rw [List.drop_eq_getElem_cons (by omega : m < X.length)]
          have : X[m]'(by omega) = r := by simpa [show m < X.length by omega] using hr
          rw [this]; simp)
        have hYl : (X.drop (m + 1)).reverse.length ≤ 1000000 := by simp; omega
        obtain ⟨Y, hY⟩ : ∃ Y, (X.drop (m + 1)).reverse = Y := ⟨_, rfl⟩
        rw [hY] at hown hYl
        have hdY : Hid ((X.drop m).reverse = Y ++ [r]) := hid (by rw [hdr.out, hY])
        clear hY hdr
        obtain ⟨ao, cap, rfl⟩ := hown.shape
        rw [e1]
        go_wp2_with (at_builtin; refine wpList_append_own _ rfl _ _ 42 rfl W1.heap.size 21 i0 (.int .i32 0) 1 4 Tryd.underlying42 hi hz0 hz1 hz2 rfl (by decide) _ _ _ rfl (World.ownsRow.alloc hown _) ⟨wr.heap.size, 0, none⟩ 1 1 [.int .i32 (r : Int)] rfl rfl ?c1 ?c2 ?c3 ?c4 ?c5 ?_)
        case c1 =>
          intro j u hj
          match j, hj with
          | 0, hj => simp at hj; subst hj; simp [Addr.add]
          | j + 1, hj => simp at hj
        case c2 => intro u hu; simp at hu; subst hu; rfl
        case c3 => unfold maxLen; omega
        case c4 => omega
        case c5 => have := hbw.size; simp; omega
        intro v' w2 hown' hgrow _
        have hown2 : OwnR W1.heap.size v' (Y ++ [r]) w2 := by
          unfold OwnR
          have el : (Y ++ [r]).length = Y.length + 1 := by simp
          rw [el, List.map_append]
          exact hown'
        have hbw2 : Below W1.heap.size W1 w2 := (hbw.alloc hbw.size _).grown hgrow (by have := hbw.size; simp; omega) (fun k hk => (hown.lt k hk).1)
        go_wp2
        go_roundw
        case rel =>
          refine ⟨m, by go_num, by omega, ?_, hbw2⟩
          rw [hdY.out]; exact hown2
        case measure => (simp [intOf]; try omega)
  · rw [if_neg hv] at hR
    subst hR
    have hv' : Lib.validD s.data.toList = false := by simpa using hv
    go_enter Tryd.func22, Tryd.ntmps22
    go_wp2_with fail
    refine (rvalid_w s _ (by omega) hT.1).mono ?_
    rintro e w1 ⟨rfl, b1⟩
    go_wp2
    go_ret
    exact ⟨rfl, b1⟩
end Go.Proofs.YtppfgcbigohkkaaDoor
