/- may of the reference: what a kind does not use. -/
import Derived.Test.YtddbndachoofoaaDoorTermRMay
namespace Go.Proofs.YtddbndachoofoaaDoor
open Go.ChangeShapes Go.WideShapes Go.ChangeAt Go.RowKit Go.Shelf
set_option linter.unusedSimpArgs false
set_option linter.unusedVariables false
abbrev MayC (k : Int) (neg : Bool) (od : Option Addr) (ld cd : Nat) (nm : ByteArray) (n : Int) (ol : Option Addr) (ll cl : Nat) (ob : Option Addr) (lb cb : Nat) (w : World) (r : Bool) : Prop :=
  Calls Tryd.prog 52 #[tmV k neg (.slice od ld cd) nm n (.slice ol ll cl) (.slice ob lb cb)] w fun e w' => e = .returned (.bool r) ∧ Below w.heap.size w w'
set_option maxHeartbeats 2000000 in
set_option maxRecDepth 8000 in
theorem bad1a (od : Option Addr) (cd : Nat) (ol : Option Addr) (cl : Nat) (ob : Option Addr) (cb : Nat) (w : World) (k : Int) (ld : Nat) (nm : ByteArray) (n : Int) (ll lb : Nat) (h0 : (k != 0) = true) : MayC k true od ld cd nm n ol ll cl ob lb cb w false := by
  go_enter Tryd.func52, Tryd.ntmps52
  simp only [List.append_eq, List.cons_append, List.nil_append]
  go_wp2
  go_ret
  exact ⟨rfl, (Below.refl _ w).alloc (Nat.le_refl _) _⟩
set_option maxHeartbeats 2000000 in
set_option maxRecDepth 8000 in
theorem bad1b (od : Option Addr) (cd : Nat) (ol : Option Addr) (cl : Nat) (ob : Option Addr) (cb : Nat) (w : World) (k : Int) (ld : Nat) (nm : ByteArray) (n : Int) (ll lb : Nat) (h0 : (k != 0) = true) (hd : (0 : Int) < (ld : Int)) : MayC k false od ld cd nm n ol ll cl ob lb cb w false := by
  go_enter Tryd.func52, Tryd.ntmps52
  simp only [List.append_eq, List.cons_append, List.nil_append]
  go_wp2
  go_ret
  exact ⟨rfl, (Below.refl _ w).alloc (Nat.le_refl _) _⟩
set_option maxHeartbeats 2000000 in
set_option maxRecDepth 8000 in
theorem bad2a (od : Option Addr) (cd : Nat) (ol : Option Addr) (cl : Nat) (ob : Option Addr) (cb : Nat) (w : World) (neg : Bool) (ld : Nat) (nm : ByteArray) (n : Int) (ll lb : Nat) (hq : nm.toList ≠ []) : MayC 0 neg od ld cd nm n ol ll cl ob lb cb w false := by
  go_enter Tryd.func52, Tryd.ntmps52
  simp only [List.append_eq, List.cons_append, List.nil_append]
  go_wp2
  go_ret
  exact ⟨rfl, (Below.refl _ w).alloc (Nat.le_refl _) _⟩
set_option maxHeartbeats 2000000 in
set_option maxRecDepth 8000 in
theorem bad2b (od : Option Addr) (cd : Nat) (ol : Option Addr) (cl : Nat) (ob : Option Addr) (cb : Nat) (w : World) (k : Int) (nm : ByteArray) (n : Int) (ll lb : Nat) (h0 : (k != 0) = true) (h1 : (k != 1) = true) (hq : nm.toList ≠ []) : MayC k false od 0 cd nm n ol ll cl ob lb cb w false := by
  go_enter Tryd.func52, Tryd.ntmps52
  simp only [List.append_eq, List.cons_append, List.nil_append]
  go_wp2
  go_ret
  exact ⟨rfl, (Below.refl _ w).alloc (Nat.le_refl _) _⟩
set_option maxHeartbeats 2000000 in
set_option maxRecDepth 8000 in
theorem bad3a (od : Option Addr) (cd : Nat) (ol : Option Addr) (cl : Nat) (ob : Option Addr) (cb : Nat) (w : World) (neg : Bool) (ld : Nat) (nm : ByteArray) (n : Int) (ll lb : Nat) (hn : nm.toList = []) (hz : (n != 0) = true) : MayC 0 neg od ld cd nm n ol ll cl ob lb cb w false := by
  go_enter Tryd.func52, Tryd.ntmps52
  simp only [List.append_eq, List.cons_append, List.nil_append]
  go_wp2
  go_ret
  exact ⟨rfl, (Below.refl _ w).alloc (Nat.le_refl _) _⟩
set_option maxHeartbeats 2000000 in
set_option maxRecDepth 8000 in
theorem bad3b (od : Option Addr) (cd : Nat) (ol : Option Addr) (cl : Nat) (ob : Option Addr) (cb : Nat) (w : World) (nm : ByteArray) (n : Int) (ll lb : Nat) (hz : (n != 0) = true) : MayC 1 false od 0 cd nm n ol ll cl ob lb cb w false := by
  go_enter Tryd.func52, Tryd.ntmps52
  simp only [List.append_eq, List.cons_append, List.nil_append]
  go_wp2
  go_ret
  exact ⟨rfl, (Below.refl _ w).alloc (Nat.le_refl _) _⟩
set_option maxHeartbeats 2000000 in
set_option maxRecDepth 8000 in
theorem bad3c (od : Option Addr) (cd : Nat) (ol : Option Addr) (cl : Nat) (ob : Option Addr) (cb : Nat) (w : World) (k : Int) (nm : ByteArray) (n : Int) (ll lb : Nat) (h0 : (k != 0) = true) (h1 : (k != 1) = true) (h2 : (k != 2) = true) (h3 : (k != 3) = true) (hn : nm.toList = []) (hz : (n != 0) = true) : MayC k false od 0 cd nm n ol ll cl ob lb cb w false := by
  go_enter Tryd.func52, Tryd.ntmps52
  simp only [List.append_eq, List.cons_append, List.nil_append]
  go_wp2
  go_ret
  exact ⟨rfl, (Below.refl _ w).alloc (Nat.le_refl _) _⟩
set_option maxHeartbeats 2000000 in
set_option maxRecDepth 8000 in
theorem bad4a (od : Option Addr) (cd : Nat) (ol : Option Addr) (cl : Nat) (ob : Option Addr) (cb : Nat) (w : World) (neg : Bool) (ld : Nat) (nm : ByteArray) (ll lb : Nat) (hn : nm.toList = []) (hl : (0 : Int) < (ll : Int)) : MayC 0 neg od ld cd nm 0 ol ll cl ob lb cb w false := by
  go_enter Tryd.func52, Tryd.ntmps52
  simp only [List.append_eq, List.cons_append, List.nil_append]
  go_wp2
  go_ret
  exact ⟨rfl, (Below.refl _ w).alloc (Nat.le_refl _) _⟩
set_option maxHeartbeats 2000000 in
set_option maxRecDepth 8000 in
theorem bad4b (od : Option Addr) (cd : Nat) (ol : Option Addr) (cl : Nat) (ob : Option Addr) (cb : Nat) (w : World) (nm : ByteArray) (ll lb : Nat) (hl : (0 : Int) < (ll : Int)) : MayC 1 false od 0 cd nm 0 ol ll cl ob lb cb w false := by
  go_enter Tryd.func52, Tryd.ntmps52
  simp only [List.append_eq, List.cons_append, List.nil_append]
  go_wp2
  go_ret
  exact ⟨rfl, (Below.refl _ w).alloc (Nat.le_refl _) _⟩
set_option maxHeartbeats 2000000 in
set_option maxRecDepth 8000 in
theorem bad4c (od : Option Addr) (cd : Nat) (ol : Option Addr) (cl : Nat) (ob : Option Addr) (cb : Nat) (w : World) (nm : ByteArray) (n : Int) (ll lb : Nat) (hn : nm.toList = []) (hl : (0 : Int) < (ll : Int)) : MayC 2 false od 0 cd nm n ol ll cl ob lb cb w false := by
  go_enter Tryd.func52, Tryd.ntmps52
  simp only [List.append_eq, List.cons_append, List.nil_append]
  go_wp2
  go_ret
  exact ⟨rfl, (Below.refl _ w).alloc (Nat.le_refl _) _⟩
set_option maxHeartbeats 2000000 in
set_option maxRecDepth 8000 in
theorem bad4d (od : Option Addr) (cd : Nat) (ol : Option Addr) (cl : Nat) (ob : Option Addr) (cb : Nat) (w : World) (nm : ByteArray) (n : Int) (ll lb : Nat) (hn : nm.toList = []) (hl : (0 : Int) < (ll : Int)) : MayC 3 false od 0 cd nm n ol ll cl ob lb cb w false := by
  go_enter Tryd.func52, Tryd.ntmps52
  simp only [List.append_eq, List.cons_append, List.nil_append]
  go_wp2
  go_ret
  exact ⟨rfl, (Below.refl _ w).alloc (Nat.le_refl _) _⟩
set_option maxHeartbeats 2000000 in
set_option maxRecDepth 8000 in
theorem bad4e (od : Option Addr) (cd : Nat) (ol : Option Addr) (cl : Nat) (ob : Option Addr) (cb : Nat) (w : World) (k : Int) (nm : ByteArray) (ll lb : Nat) (h0 : (k != 0) = true) (h1 : (k != 1) = true) (h2 : (k != 2) = true) (h3 : (k != 3) = true) (h4 : (k != 4) = true) (h6 : (k != 6) = true) (hn : nm.toList = []) (hl : (0 : Int) < (ll : Int)) : MayC k false od 0 cd nm 0 ol ll cl ob lb cb w false := by
  go_enter Tryd.func52, Tryd.ntmps52
  simp only [List.append_eq, List.cons_append, List.nil_append]
  go_wp2
  go_ret
  exact ⟨rfl, (Below.refl _ w).alloc (Nat.le_refl _) _⟩
set_option maxHeartbeats 2000000 in
set_option maxRecDepth 8000 in
theorem bad5a (od : Option Addr) (cd : Nat) (ol : Option Addr) (cl : Nat) (ob : Option Addr) (cb : Nat) (w : World) (neg : Bool) (ld : Nat) (nm : ByteArray) (lb : Nat) (hn : nm.toList = []) (hb : (0 : Int) < (lb : Int)) : MayC 0 neg od ld cd nm 0 ol 0 cl ob lb cb w false := by
  go_enter Tryd.func52, Tryd.ntmps52
  simp only [List.append_eq, List.cons_append, List.nil_append]
  go_wp2
  go_ret
  exact ⟨rfl, (Below.refl _ w).alloc (Nat.le_refl _) _⟩
set_option maxHeartbeats 2000000 in
set_option maxRecDepth 8000 in
theorem bad5b (od : Option Addr) (cd : Nat) (ol : Option Addr) (cl : Nat) (ob : Option Addr) (cb : Nat) (w : World) (nm : ByteArray) (lb : Nat) (hb : (0 : Int) < (lb : Int)) : MayC 1 false od 0 cd nm 0 ol 0 cl ob lb cb w false := by
  go_enter Tryd.func52, Tryd.ntmps52
  simp only [List.append_eq, List.cons_append, List.nil_append]
  go_wp2
  go_ret
  exact ⟨rfl, (Below.refl _ w).alloc (Nat.le_refl _) _⟩
set_option maxHeartbeats 2000000 in
set_option maxRecDepth 8000 in
theorem bad5c (od : Option Addr) (cd : Nat) (ol : Option Addr) (cl : Nat) (ob : Option Addr) (cb : Nat) (w : World) (nm : ByteArray) (n : Int) (lb : Nat) (hn : nm.toList = []) (hb : (0 : Int) < (lb : Int)) : MayC 2 false od 0 cd nm n ol 0 cl ob lb cb w false := by
  go_enter Tryd.func52, Tryd.ntmps52
  simp only [List.append_eq, List.cons_append, List.nil_append]
  go_wp2
  go_ret
  exact ⟨rfl, (Below.refl _ w).alloc (Nat.le_refl _) _⟩
set_option maxHeartbeats 2000000 in
set_option maxRecDepth 8000 in
theorem bad5d (od : Option Addr) (cd : Nat) (ol : Option Addr) (cl : Nat) (ob : Option Addr) (cb : Nat) (w : World) (nm : ByteArray) (n : Int) (lb : Nat) (hn : nm.toList = []) (hb : (0 : Int) < (lb : Int)) : MayC 3 false od 0 cd nm n ol 0 cl ob lb cb w false := by
  go_enter Tryd.func52, Tryd.ntmps52
  simp only [List.append_eq, List.cons_append, List.nil_append]
  go_wp2
  go_ret
  exact ⟨rfl, (Below.refl _ w).alloc (Nat.le_refl _) _⟩
set_option maxHeartbeats 2000000 in
set_option maxRecDepth 8000 in
theorem bad5e (od : Option Addr) (cd : Nat) (ol : Option Addr) (cl : Nat) (ob : Option Addr) (cb : Nat) (w : World) (nm : ByteArray) (ll lb : Nat) (hn : nm.toList = []) (hb : (0 : Int) < (lb : Int)) : MayC 4 false od 0 cd nm 0 ol ll cl ob lb cb w false := by
  go_enter Tryd.func52, Tryd.ntmps52
  simp only [List.append_eq, List.cons_append, List.nil_append]
  go_wp2
  go_ret
  exact ⟨rfl, (Below.refl _ w).alloc (Nat.le_refl _) _⟩
set_option maxHeartbeats 2000000 in
set_option maxRecDepth 8000 in
theorem bad5f (od : Option Addr) (cd : Nat) (ol : Option Addr) (cl : Nat) (ob : Option Addr) (cb : Nat) (w : World) (nm : ByteArray) (ll lb : Nat) (hn : nm.toList = []) (hb : (0 : Int) < (lb : Int)) : MayC 6 false od 0 cd nm 0 ol ll cl ob lb cb w false := by
  go_enter Tryd.func52, Tryd.ntmps52
  simp only [List.append_eq, List.cons_append, List.nil_append]
  go_wp2
  go_ret
  exact ⟨rfl, (Below.refl _ w).alloc (Nat.le_refl _) _⟩
set_option maxHeartbeats 2000000 in
set_option maxRecDepth 8000 in
theorem bad5g (od : Option Addr) (cd : Nat) (ol : Option Addr) (cl : Nat) (ob : Option Addr) (cb : Nat) (w : World) (k : Int) (nm : ByteArray) (lb : Nat) (h0 : (k != 0) = true) (h1 : (k != 1) = true) (h2 : (k != 2) = true) (h3 : (k != 3) = true) (h4 : (k != 4) = true) (h6 : (k != 6) = true) (h7 : (k != 7) = true) (hn : nm.toList = []) (hb : (0 : Int) < (lb : Int)) : MayC k false od 0 cd nm 0 ol 0 cl ob lb cb w false := by
  go_enter Tryd.func52, Tryd.ntmps52
  simp only [List.append_eq, List.cons_append, List.nil_append]
  go_wp2
  go_ret
  exact ⟨rfl, (Below.refl _ w).alloc (Nat.le_refl _) _⟩
end Go.Proofs.YtddbndachoofoaaDoor
