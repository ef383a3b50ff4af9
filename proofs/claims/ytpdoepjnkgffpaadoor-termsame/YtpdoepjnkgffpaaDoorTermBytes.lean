/- bytes.Equal. -/
import Derived.Test.YtpdoepjnkgffpaaDoorTermMem
import Derived.Laws.BytesArg
import Derived.Laws.IdiomStrings
namespace Go.Proofs.YtpdoepjnkgffpaaDoor
open Go.ChangeShapes Go.WideShapes Go.ChangeAt Go.RowKit
set_option linter.unusedSimpArgs false
set_option linter.unusedVariables false
set_option maxRecDepth 2000
def str (b : List Nat) : ByteArray := ⟨(b.map UInt8.ofNat).toArray⟩
theorem str_inj {a b : List Nat} (ha : Lm 256 a) (hb : Lm 256 b) (h : str a = str b) : a = b := by
  have h1 : a.map UInt8.ofNat = b.map UInt8.ofNat := by
    unfold str at h
    injection h with h
    exact List.toArray_inj h
  have h2 : ∀ l : List Nat, Lm 256 l → (l.map UInt8.ofNat).map UInt8.toNat = l := fun l hl => by
    rw [List.map_map]
    conv => rhs; rw [← List.map_id l]
    apply List.map_congr_left
    intro x hx
    have := hl x hx
    simp only [Function.comp, UInt8.toNat_ofNat', id]
    omega
  rw [← h2 a ha, ← h2 b hb, h1]
theorem conv_w {Z : Nat → Prop} {o : Option Addr} {b : List Nat} {w : World} (c : Nat) (h : LsB Z o b w) : (convert 29 9 (.slice o b.length c)).run Tryd.prog w = .ok (.string (str b)) w := by
  cases o with
  | none =>
    have hb : b = [] := by
      cases b with
      | nil => rfl
      | cons x t => obtain ⟨a, ha, _⟩ := h.1 0 (.int .u8 (x : Int)) (by simp); simp at ha
    subst hb
    exact run_convert_bytes_nil (P := Tryd.prog) w 29 5 Tryd.underlying29 Tryd.underlying5 0 c 9 Tryd.underlying9
  | some a =>
    have := run_convert_bytes_back (P := Tryd.prog) w 29 9 5 a c (b.map UInt8.ofNat) Tryd.underlying29 Tryd.underlying5 Tryd.underlying9 (fun j hj => by
      have hj' : j < b.length := by simpa using hj
      obtain ⟨a', ha, _, hc⟩ := h.1 j (.int .u8 (b[j] : Int)) (by simp [hj'])
      obtain rfl := Option.some.inj ha
      rw [hc]
      have := h.2 b[j] (List.getElem_mem hj')
      simp only [List.getElem_map, UInt8.toNat_ofNat']
      rw [Nat.mod_eq_of_lt (by omega)])
    rw [List.length_map] at this
    exact this
set_option maxHeartbeats 1000000 in
theorem bytesEqual_w {Z : Nat → Prop} {oa ob : Option Addr} {a b : List Nat} {w : World} (ca cb : Nat) (ha : LsB Z oa a w) (hb : LsB Z ob b w) :
    Calls Tryd.prog 68 #[.slice oa a.length ca, .slice ob b.length cb] w fun e w' => e = .returned (.bool (decide (a = b))) ∧ w' = w := by
  have h1 := conv_w ca ha
  have h2 := conv_w cb hb
  obtain ⟨R, hR⟩ : ∃ R, decide (a = b) = R := ⟨_, rfl⟩
  rw [hR]
  have hHR := hid hR
  have hma := hid ha.2
  have hmb := hid hb.2
  clear hR ha hb
  obtain ⟨sa, hsa⟩ : ∃ sa, str a = sa := ⟨_, rfl⟩
  obtain ⟨sb, hsb⟩ : ∃ sb, str b = sb := ⟨_, rfl⟩
  rw [hsa] at h1
  rw [hsb] at h2
  have Ha := hid hsa
  have Hb := hid hsb
  clear hsa hsb
  go_enter Tryd.func68, Tryd.ntmps68
  go_wp2
  go_ret
  refine ⟨?_, rfl⟩
  have hq : (sa.toList == sb.toList) = R := by
    rw [← hHR.out, ByteArray.toList_eq, ByteArray.toList_eq]
    by_cases hab : a = b
    · have : sa = sb := by rw [← Ha.out, ← Hb.out, hab]
      rw [this]; simp [hab]
    · have : sa.data.toList ≠ sb.data.toList := fun e => hab (str_inj hma.out hmb.out (by
        rw [Ha.out, Hb.out]
        cases sa; cases sb
        simp only at e
        rw [Array.toList_inj.1 e]))
      rw [decide_eq_false hab, beq_eq_false_iff_ne]; exact this
  exact congrArg (fun x => Ending.returned (.bool x)) hq
end Go.Proofs.YtpdoepjnkgffpaaDoor
