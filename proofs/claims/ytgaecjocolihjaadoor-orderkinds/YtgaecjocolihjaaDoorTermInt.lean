/- Num, Int, Of, Atom, Pid of package term. -/
import Derived.Test.YtgaecjocolihjaaDoorTermCopyAll
namespace Go.Proofs.YtgaecjocolihjaaDoor
open Go.ChangeShapes Go.WideShapes Go.ChangeAt Go.RowKit Go.Shelf
set_option linter.unusedSimpArgs false
set_option linter.unusedVariables false
def intT (Z : Int) : Tm := .mk 0 (decide (Z < 0)) (glim 4294967296 Z.natAbs) noS 0 [] []
theorem tv_int {S B : Nat} {w w' : World} {Z : Int} {o : Option Addr} {c : Nat} (h : w.ownsRow B 61 1 (.slice o (glim 4294967296 Z.natAbs).length c) (glim 4294967296 Z.natAbs).length (lim (glim 4294967296 Z.natAbs))) (hS : S ≤ B) (hk : ∀ g, B ≤ g → g < w.heap.size → w'.heap[g]? = w.heap[g]?) :
    TV (Zw S w') w' (intT Z) (tmV 0 (decide (Z < 0)) (.slice o (glim 4294967296 Z.natAbs).length c) noS 0 nilS nilS) := by
  have hc := own_sl h
  obtain ⟨_, _, e, hc⟩ := hc
  simp only [Value.slice.injEq, true_and] at e
  obtain ⟨rfl, rfl⟩ := e
  unfold intT TV
  refine ⟨o, c, none, 0, none, 0, rfl, own_ls h hS (fun g hg => ?_), hc, lm_glim (by omega) _, LsB.nil _ _ _, by simp, by simp, by unfold TR; trivial⟩
  subst hg
  obtain ⟨cur, hq, hB, _⟩ := own_blk h
  exact hk g hB (Array.getElem?_eq_some_iff.1 hq).1
theorem bx27 (w : World) (a0 a1 b0 b1 b2 b3 b4 b5 b6 : Value) (ta tb : TypeId) :
    Box w.heap.size a0 a1 ((w.alloc (.cells #[a0, a1] ta)).alloc (.cells #[b0, b1, b2, b3, b4, b5, b6] tb)) ∧ Bx (w.heap.size + 1) b0 b1 b2 b3 b4 b5 b6 ((w.alloc (.cells #[a0, a1] ta)).alloc (.cells #[b0, b1, b2, b3, b4, b5, b6] tb)) ∧ Below w.heap.size w ((w.alloc (.cells #[a0, a1] ta)).alloc (.cells #[b0, b1, b2, b3, b4, b5, b6] tb)) ∧ ((w.alloc (.cells #[a0, a1] ta)).alloc (.cells #[b0, b1, b2, b3, b4, b5, b6] tb)).heap.size = w.heap.size + 2 := by
  have h1 := Box.new w a0 a1 ta
  have h2 := Bx.new (w.alloc (.cells #[a0, a1] ta)) b0 b1 b2 b3 b4 b5 b6 tb
  rw [World.size_alloc] at h2
  exact ⟨h1.below ((Below.refl _ _).alloc (Nat.le_refl _) _) (by simp), h2, ((Below.refl _ w).alloc (Nat.le_refl _) _).alloc (by simp) _, by simp⟩
theorem bx72 (w : World) (a0 a1 a2 a3 a4 a5 a6 b0 b1 : Value) (ta tb : TypeId) :
    Bx w.heap.size a0 a1 a2 a3 a4 a5 a6 ((w.alloc (.cells #[a0, a1, a2, a3, a4, a5, a6] ta)).alloc (.cells #[b0, b1] tb)) ∧ Box (w.heap.size + 1) b0 b1 ((w.alloc (.cells #[a0, a1, a2, a3, a4, a5, a6] ta)).alloc (.cells #[b0, b1] tb)) ∧ Below w.heap.size w ((w.alloc (.cells #[a0, a1, a2, a3, a4, a5, a6] ta)).alloc (.cells #[b0, b1] tb)) ∧ ((w.alloc (.cells #[a0, a1, a2, a3, a4, a5, a6] ta)).alloc (.cells #[b0, b1] tb)).heap.size = w.heap.size + 2 := by
  have h1 := Bx.new w a0 a1 a2 a3 a4 a5 a6 ta
  have h2 := Box.new (w.alloc (.cells #[a0, a1, a2, a3, a4, a5, a6] ta)) b0 b1 tb
  rw [World.size_alloc] at h2
  exact ⟨h1.below ((Below.refl _ _).alloc (Nat.le_refl _) _), h2, ((Below.refl _ w).alloc (Nat.le_refl _) _).alloc (by simp) _, by simp⟩
theorem bx1 (w : World) (b0 b1 b2 b3 b4 b5 b6 : Value) (tb : TypeId) :
    Bx w.heap.size b0 b1 b2 b3 b4 b5 b6 (w.alloc (.cells #[b0, b1, b2, b3, b4, b5, b6] tb)) ∧ Below w.heap.size w (w.alloc (.cells #[b0, b1, b2, b3, b4, b5, b6] tb)) ∧ (w.alloc (.cells #[b0, b1, b2, b3, b4, b5, b6] tb)).heap.size = w.heap.size + 1 :=
  ⟨Bx.new w b0 b1 b2 b3 b4 b5 b6 tb, (Below.refl _ w).alloc (Nat.le_refl _) _, by simp⟩
def atomT (nm : ByteArray) : Tm := .mk 1 false [] nm 0 [] []
theorem tv_flat {Z : Nat → Prop} {w : World} (k : Int) (nm : ByteArray) (n : Int) : TV Z w (.mk k false [] nm n [] []) (tmV k false nilS nm n nilS nilS) := by
  unfold TV
  exact ⟨none, 0, none, 0, none, 0, rfl, Ls.nil _ _ _, by simp, Lm.nil _, LsB.nil _ _ _, by simp, by simp, by unfold TR; trivial⟩
theorem ok_flat (k : Int) {nm : ByteArray} (n : Int) (h : nm.size ≤ 1000000) : (Tm.mk k false [] nm n [] []).ok1 := ⟨by simp, h, by simp, by simp, Lm.nil _⟩
end Go.Proofs.YtgaecjocolihjaaDoor
