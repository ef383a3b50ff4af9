/- The names of AtomsOnce: so many signs of two bytes, and a letter. -/
import Derived.Test.YtibgdncfahffpaaDoorAtomsMath
namespace Go.Proofs.YtibgdncfahffpaaDoor.atomsOnce
/-- the long name's signs -/
def nmL (m : Nat) : List Nat := List.replicate m 233
def nm (m : Nat) : ByteArray := ⟨(en (nmL m)).toArray⟩
def mk (m c : Nat) : ByteArray := ⟨(en (nmL m ++ [c])).toArray⟩
theorem e233 : e1 233 = [195, 169] := by decide +kernel
theorem ok233 : okR 233 := Or.inl (by omega)
theorem okLow {c : Nat} (h : c < 128) : okR c := Or.inl (by omega)
theorem ok_nmL (m : Nat) : okRs (nmL m) := fun x hx => by
  have := List.eq_of_mem_replicate hx
  subst this; exact ok233
theorem ok_mkL (m : Nat) {c : Nat} (h : c < 128) : okRs (nmL m ++ [c]) := fun x hx => by
  rcases List.mem_append.1 hx with hx | hx
  · exact ok_nmL m x hx
  · simp at hx; subst hx; exact okLow h
theorem nm_zero : nm 0 = ⟨#[]⟩ := rfl
theorem ba_ext {a b : ByteArray} (h : a.data.toList = b.data.toList) : a = b := by
  cases a; cases b; simp at h; subst h; rfl
theorem nm_succ (m : Nat) : nm m ++ ⟨#[195, 169]⟩ = nm (m + 1) := by
  apply ba_ext
  have : nmL (m + 1) = nmL m ++ [233] := by unfold nmL; rw [List.replicate_succ']
  simp only [nm, this, en_append]
  show _ = en (nmL m) ++ (e1 233 ++ [])
  rw [e233]
  simp
theorem nm_mk (m c : Nat) (h : c < 128) : nm m ++ ⟨#[c.toUInt8]⟩ = mk m c := by
  apply ba_ext
  simp only [nm, mk, en_append]
  show _ = en (nmL m) ++ (e1 c ++ [])
  rw [e1_ascii c h]
  simp
theorem en_nmL (m : Nat) : (en (nmL m)).length = 2 * m := by
  induction m with
  | zero => rfl
  | succ m ih =>
    have : nmL (m + 1) = 233 :: nmL m := rfl
    rw [this]
    show (e1 233 ++ en (nmL m)).length = _
    rw [e233, List.length_append, ih]
    simp; omega
theorem nm_size (m : Nat) : (nm m).size = 2 * m := by
  show (en (nmL m)).toArray.size = _
  rw [List.size_toArray, en_nmL]
theorem mk_size (m c : Nat) (h : c < 128) : (mk m c).size = 2 * m + 1 := by
  rw [← nm_mk m c h, ByteArray.size_append, nm_size]
  rfl
theorem nm_valid (m : Nat) : Lib.validD (nm m).data.toList = true := valid_en0 _ (ok_nmL m)
theorem mk_fault (m c : Nat) (hm : m < 200) (h : c < 128) : faultZ (mk m c).data.toList = 0 := by
  have hv : Lib.validD (mk m c).data.toList = true := valid_en0 _ (ok_mkL m h)
  have hs : sg (mk m c).data.toList = nmL m ++ [c] := sg_en0 _ (ok_mkL m h)
  unfold faultZ countZ
  rw [if_pos hv, if_pos hv, hs]
  rw [if_neg]
  simp [nmL]
  omega
theorem mk_inj (m : Nat) {c d : Nat} (hc : c < 128) (hd : d < 128) (h : mk m c = mk m d) : c = d := by
  have h1 : sg (mk m c).data.toList = nmL m ++ [c] := sg_en0 _ (ok_mkL m hc)
  have h2 : sg (mk m d).data.toList = nmL m ++ [d] := sg_en0 _ (ok_mkL m hd)
  rw [h, h2] at h1
  simp at h1
  exact h1.symm
/-- all of them letters, each once -/
def Lets (cs : List Nat) : Prop := cs.Nodup ∧ ∀ c ∈ cs, c < 26
def mks (m : Nat) (cs : List Nat) : List ByteArray := cs.map fun c => mk m (97 + c)
theorem mks_length (m : Nat) (cs : List Nat) : (mks m cs).length = cs.length := by simp [mks]
theorem mks_get (m : Nat) (cs : List Nat) (j x : Nat) (h : cs[j]? = some x) : (mks m cs)[j]? = some (mk m (97 + x)) := by simp [mks, h]
theorem pos_there {m : Nat} {cs : List Nat} {x j : Nat} (hL : Lets cs) (hx : x < 26) (h : cs[j]? = some x) : pos (mks m cs) (mk m (97 + x)) = some j := by
  refine pos_first _ _ _ (mks_get m cs j x h) (fun i hi e => ?_)
  cases hc : cs[i]? with
  | none => simp [mks, hc] at e
  | some c =>
    rw [mks_get m cs i c hc] at e
    injection e with e
    have hc26 := hL.2 c (List.mem_of_getElem? hc)
    have := mk_inj m (by omega) (by omega) e
    have hcx : c = x := by omega
    subst hcx
    have := (List.getElem?_inj (List.getElem?_eq_some_iff.1 hc).1 hL.1).1 (hc.trans h.symm)
    omega
theorem pos_not {m : Nat} {cs : List Nat} {x : Nat} (hL : Lets cs) (hx : x < 128) (h : ∀ c ∈ cs, 97 + c ≠ x) : pos (mks m cs) (mk m x) = none := by
  refine pos_none _ _ (fun i e => ?_)
  cases hc : cs[i]? with
  | none => simp [mks, hc] at e
  | some c =>
    rw [mks_get m cs i c hc] at e
    injection e with e
    have hm := List.mem_of_getElem? hc
    have hc26 := hL.2 c hm
    exact h c hm (mk_inj m (by omega) (by omega) e)
theorem lets_snoc {cs : List Nat} {x : Nat} (h : Lets cs) (hx : x < 26) (hn : x ∉ cs) : Lets (cs ++ [x]) := by
  refine ⟨?_, fun c hc => ?_⟩
  · rw [List.nodup_append]
    refine ⟨h.1, by simp, fun a ha b hb => ?_⟩
    simp at hb; subst hb
    exact fun e => hn (e ▸ ha)
  · rcases List.mem_append.1 hc with hc | hc
    · exact h.2 c hc
    · simp at hc; omega
theorem lets_le {cs : List Nat} (h : Lets cs) : cs.length ≤ 26 := by
  have hsub : cs ⊆ List.range 26 := fun c hc => by simp; exact h.2 c hc
  have := List.Nodup.length_le_of_subset (l₁ := cs) h.1 hsub
  simpa using this
end Go.Proofs.YtibgdncfahffpaaDoor.atomsOnce
