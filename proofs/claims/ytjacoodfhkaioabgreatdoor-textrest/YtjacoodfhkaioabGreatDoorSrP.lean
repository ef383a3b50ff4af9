/- Texts of mine, one behind the other: TextRdB, TextRdH, BigTM, TextBk1, TextBk2, TextBk3, TextBk4. -/
import Derived.Test.YtjacoodfhkaioabGreatDoorSrM
import Derived.Test.YtjacoodfhkaioabGreatDoorSrO
import Derived.Test.YtjacoodfhkaioabGreatDoorSrH
import Derived.Test.YtjacoodfhkaioabGreatDoorSrL
import Derived.Test.YtjacoodfhkaioabGreatDoorSrK
import Derived.Test.YtjacoodfhkaioabGreatDoorSrI
import Derived.Test.YtjacoodfhkaioabGreatDoorSrJ
namespace Go.Proofs.YtjacoodfhkaioabGreatDoor
open Go.ChangeShapes Go.WideShapes Go.ChangeAt Go.RowKit Go.Shelf
set_option linter.unusedSimpArgs false
set_option linter.unusedVariables false
set_option maxRecDepth 2000

/-- a row that is open: the sign that ends it, what was read of it, whether a list's end follows -/
structure Op where
  c : UInt8
  its : List Tm
  bar : Bool
inductive Hd where
  | no
  | tm (T : Tm)
  | rw (o : Op)
def consL : List Tm → Tm → Tm
  | [], t => t
  | x :: l, t => consT x (consL l t)
def wholeL (o : Op) : Option Tm :=
  if o.c = 125 then some (tupT o.its)
  else if o.bar then
    match o.its.getLast? with
    | none => none
    | some t => if t.kind = 5 ∨ t.kind = 6 then none else some (consL o.its.dropLast t)
  else some (consL o.its nilT)
def hdO : Option Tm → Hd
  | none => .no
  | some T => .tm T
def Op.add (o : Op) (T : Tm) : Op := ⟨o.c, o.its ++ [T], o.bar⟩
def putL (o : Op) (T : Tm) (r : List UInt8) : Hd × List UInt8 :=
  if skB o.c r then (hdO (wholeL (o.add T)), skR o.c r)
  else if o.bar then (.no, r)
  else if skB 44 r then (.rw (o.add T), skR 44 r)
  else if o.c = 93 ∧ skB 124 r = true then (.rw ⟨o.c, o.its ++ [T], true⟩, skR 124 r)
  else (.no, r)
def bgH : Bg → Hd
  | .lf o => hdO o
  | .rw c => .rw ⟨c, [], false⟩
def runL : Nat → List UInt8 → List Op → Hd → Option Tm × List UInt8
  | 0, r, _, _ => (none, r)
  | _ + 1, r, _, .no => (none, r)
  | n + 1, r, st, .rw o => runL n (beginL r).2 (o :: st) (bgH (beginL r).1)
  | _ + 1, r, [], .tm T => (some T, r)
  | n + 1, r, o :: st, .tm T => runL n (putL o T r).2 st (putL o T r).1
def readL (r : List UInt8) : Option Tm × List UInt8 := runL (r.length + 2) (beginL r).2 [] (bgH (beginL r).1)
/-- how much is held -/
def wtO (o : Op) : Nat := 1 + o.its.length
def wtS : List Op → Nat
  | [] => 0
  | o :: st => wtO o + wtS st
def wtH : Hd → Nat
  | .no => 0
  | .tm _ => 1
  | .rw o => wtO o
def okOp (o : Op) : Prop := (o.c = 93 ∨ o.c = 125) ∧ (o.bar = true → o.its ≠ [] ∧ o.c = 93)
def okH : Hd → Prop
  | .no => True
  | .tm _ => True
  | .rw o => okOp o
theorem skB_len {c : UInt8} {r : List UInt8} (h : skB c r = true) : (skR c r).length + 1 = r.length := by
  unfold skB at h
  unfold skR
  cases r with
  | nil => simp at h
  | cons b t => simp at h; simp [h]
theorem drop_le (r : List UInt8) : (r.dropWhile digB).length ≤ r.length := (List.dropWhile_suffix digB).length_le
theorem pidL_le (r : List UInt8) : (pidL r).2.length ≤ r.length := by
  unfold pidL
  split
  · exact Nat.le_trans (skR_le _ _) (drop_le r)
  · exact drop_le r
theorem refL_le (r : List UInt8) : (refL r).2.length ≤ r.length := drop_le r
theorem intL_le (m r : List UInt8) : (intL m r).2.length ≤ r.length := drop_le r
theorem intL_shr (r : List UInt8) (h : digH r = true) : (intL [] r).2.length + 1 ≤ r.length := by
  cases r with
  | nil => simp [digH] at h
  | cons b t =>
    unfold digH at h
    have h2 : digB b = true := h
    show ((b :: t).dropWhile digB).length + 1 ≤ _
    rw [List.dropWhile_cons_of_pos h2, List.length_cons]
    have := drop_le t
    omega
/-- what is valid stays so -/
theorem vd_app {a b : List UInt8} (h : Lib.validD a = true) : Lib.validD (a ++ b) = Lib.validD b := by
  obtain ⟨rs, h1, rfl⟩ := (valid_iff a).1 h
  exact valid_en rs h1 b
theorem vd_asc (c : UInt8) (hc : c.toNat < 128) (t : List UInt8) : Lib.validD (c :: t) = Lib.validD t := by
  have h := valid_e1 c.toNat (okR_ascii hc) t
  rw [e1_ascii _ hc] at h
  simpa using h
theorem vd_skR {c : UInt8} {r : List UInt8} (hc : c.toNat < 128) (h : Lib.validD r = true) : Lib.validD (skR c r) = true := by
  unfold skR
  split
  · rename_i hh
    cases r with
    | nil => simp at hh
    | cons b t =>
      simp only [List.head?_cons, Option.some.injEq] at hh
      subst hh
      rw [vd_asc _ hc] at h
      exact h
  · exact h
theorem vd_drop {r : List UInt8} (h : Lib.validD r = true) : Lib.validD (r.dropWhile digB) = true := by
  induction r with
  | nil => exact h
  | cons b t ih =>
    by_cases hb : digB b = true
    · rw [List.dropWhile_cons_of_pos hb]
      have hb2 : b.toNat < 128 := by simp [digB] at hb; omega
      rw [vd_asc _ hb2] at h
      exact ih h
    · rw [List.dropWhile_cons_of_neg hb]; exact h
theorem vd_quote (x : List UInt8) : Lib.validD (quoteL x) = true := by
  unfold quoteL
  split
  · split
    · assumption
    · exact valid_en0 _ (okRs_quoteR _ (okRs_sg _))
  · rfl
theorem vd_name {r : List UInt8} (h : Lib.validD r = true) : Lib.validD (nameL r).2 = true := by
  unfold nameL
  split
  · split
    · rename_i h2
      have h3 := List.take_append_drop (unqQ (r.take (nearN r))).2.2 r
      rw [← h3, vd_app (by rw [h2]; exact vd_quote _)] at h
      exact h
    · exact h
  · exact h
theorem vd_bin : ∀ (k : Nat) (r : List UInt8) (acc : List Nat), Lib.validD r = true → Lib.validD (binGo k r acc).2 = true
  | 0, r, _, h => h
  | k + 1, r, acc, h => by
    have h2 : Lib.validD (if acc = [] then r else skR 44 r) = true := by
      split
      · exact h
      · exact vd_skR (by decide) h
    obtain ⟨q, hq⟩ : ∃ q, (if acc = [] then r else skR 44 r) = q := ⟨_, rfl⟩
    rw [hq] at h2
    rw [bin_one, hq]
    split
    · split
      · exact vd_skR (by decide) (vd_skR (by decide) h)
      · exact vd_skR (by decide) (vd_skR (by decide) h)
    · split
      · exact h
      · split
        · exact vd_bin k _ _ (vd_drop h2)
        · exact vd_drop h2
theorem vd_head {b : UInt8} {t : List UInt8} (h : Lib.validD (b :: t) = true) : stB b.toNat = true := by
  rw [Lib.validD_step _ (by simp), Lib.decodeL_N] at h
  simp only [List.getD_cons_zero] at h
  have hb := b.toNat_lt
  rcases Lib.decodeN_shape (b :: t).length b.toNat ((b :: t).getD 1 0).toNat ((b :: t).getD 2 0).toNat ((b :: t).getD 3 0).toNat with ⟨c, e⟩ | ⟨c1, _⟩ | ⟨c1, _⟩ | ⟨c1, _⟩ | e
  · simp [stB]; omega
  · simp [stB]; omega
  · simp [stB]; omega
  · simp [stB]; omega
  · rw [e] at h
    simp at h
theorem opL_vd {c : UInt8} {T : Tm} {r : List UInt8} (hc : c.toNat < 128) (h : Lib.validD r = true) : Lib.validD (opL c T r).2 = true := by
  unfold opL
  split
  · exact vd_skR hc h
  · exact h
theorem pidL_vd {r : List UInt8} (h : Lib.validD r = true) : Lib.validD (pidL r).2 = true := by
  unfold pidL
  split
  · exact vd_skR (by decide) (vd_drop h)
  · exact vd_drop h
theorem beginL_vd {r : List UInt8} (h : Lib.validD r = true) : Lib.validD (beginL r).2 = true := by
  unfold beginL
  have q := fun (c : UInt8) (hc : c.toNat < 128) => vd_skR hc h
  split
  · exact opL_vd (by decide) (q 91 (by decide))
  · split
    · exact opL_vd (by decide) (q 123 (by decide))
    · split
      · split
        · exact vd_bin _ _ _ (vd_skR (by decide) (q 60 (by decide)))
        · exact pidL_vd (q 60 (by decide))
      · split
        · exact vd_drop (q 35 (by decide))
        · split
          · exact vd_drop (q 45 (by decide))
          · split
            · exact vd_drop h
            · exact vd_name h
/-- a name takes a byte at least -/
theorem runQ_rest (L : Nat) : ∀ (t : List Nat) (part : Nat) (out : List Nat) (num dig : Nat), (runQ L part out num dig t).1 = 0 → ∃ p, t = p ++ (runQ L part out num dig t).2.2
  | [], _, _, _, _, h => by simp [runQ] at h
  | r :: t, part, out, num, dig, h => by
    unfold runQ at h ⊢
    split at h
    · rename_i hc
      rw [if_pos hc]
      exact ⟨[r], rfl⟩
    · rename_i hc
      rw [if_neg hc]
      split at h
      · rename_i hc2
        rw [if_pos hc2]
        obtain ⟨p, hp⟩ := runQ_rest L t _ _ _ _ h
        exact ⟨r :: p, by rw [List.cons_append, ← hp]⟩
      · rename_i hc2
        exact absurd h hc2
theorem hasP_39 {l : List UInt8} (h : Lib.hasPrefix l [39] = true) : ∃ t, l = 39 :: t := by
  cases l with
  | nil => simp [Lib.hasPrefix] at h
  | cons b t =>
    simp [Lib.hasPrefix] at h
    exact ⟨t, by rw [h]⟩
theorem unq_pos (l : List UInt8) (h : (unqQ l).1 = 0) : 1 ≤ (unqQ l).2.2 := by
  unfold unqQ at h ⊢
  by_cases hv : Lib.validD l = true
  · rw [if_pos hv] at h ⊢
    by_cases hp : Lib.hasPrefix l [39] = true
    · rw [if_pos hp] at h ⊢
      obtain ⟨t, rfl⟩ := hasP_39 hp
      rw [vd_asc _ (by decide)] at hv
      unfold quotQ at h ⊢
      by_cases hq : (runQ 255 0 [] 0 0 (sg ((39 :: t).drop 1))).1 = 0
      · rw [if_pos hq] at h ⊢
        obtain ⟨p, hp⟩ := runQ_rest 255 _ _ _ _ _ hq
        have h2 := congrArg (fun x => (en x).length) hp
        simp only [List.drop_succ_cons, List.drop_zero] at h2 ⊢
        rw [en_of_valid hv, en_append, List.length_append] at h2
        simp only [List.length_cons]
        omega
      · rw [if_neg hq] at h
        exact absurd h hq
    · rw [if_neg hp] at h ⊢
      unfold bareQ at h ⊢
      split at h
      · simp at h
      · split at h
        · simp at h
        · rename_i h1 h2
          rw [if_neg h1, if_neg h2]
          show 1 ≤ bareLen true (sg l)
          omega
  · rw [if_neg hv] at h
    simp at h
theorem nameL_le (r : List UInt8) : (nameL r).2.length ≤ r.length := by
  unfold nameL
  split
  · split
    · rw [List.length_drop]; omega
    · exact Nat.le_refl _
  · exact Nat.le_refl _
theorem nameL_shr (r : List UInt8) (h : (nameL r).1.isSome = true) : (nameL r).2.length + 1 ≤ r.length := by
  unfold nameL at h ⊢
  split at h
  · rename_i h0
    split at h
    · rename_i h1
      rw [if_pos h0, if_pos h1]
      have h2 := unq_pos _ h0
      have h3 := (unq_sizes (r.take (nearN r)) (by have := nearN_le r; omega)).2
      have h4 : (r.take (nearN r)).length ≤ r.length := by rw [List.length_take]; omega
      rw [List.length_drop]
      omega
    · simp at h
  · simp at h
theorem binGo_le : ∀ (k : Nat) (r : List UInt8) (acc : List Nat), (binGo k r acc).2.length ≤ r.length
  | 0, r, _ => Nat.le_refl _
  | k + 1, r, acc => by
    have h2 : (if acc = [] then r else skR 44 r).length ≤ r.length := by
      split
      · exact Nat.le_refl _
      · exact skR_le _ _
    obtain ⟨q, hq⟩ : ∃ q, (if acc = [] then r else skR 44 r) = q := ⟨_, rfl⟩
    rw [hq] at h2
    rw [bin_one, hq]
    split
    · split
      · exact Nat.le_trans (skR_le _ _) (skR_le _ _)
      · exact Nat.le_trans (skR_le _ _) (skR_le _ _)
    · split
      · exact Nat.le_refl _
      · split
        · exact Nat.le_trans (binGo_le k _ _) (Nat.le_trans (drop_le _) h2)
        · exact Nat.le_trans (drop_le _) h2
theorem opL_le (c : UInt8) (T : Tm) (r : List UInt8) : (opL c T r).2.length ≤ r.length := by
  unfold opL
  split
  · exact skR_le _ _
  · exact Nat.le_refl _
theorem beginL_le (r : List UInt8) : (beginL r).2.length ≤ r.length := by
  unfold beginL
  split
  · exact Nat.le_trans (opL_le _ _ _) (skR_le _ _)
  · split
    · exact Nat.le_trans (opL_le _ _ _) (skR_le _ _)
    · split
      · split
        · exact Nat.le_trans (binGo_le ((skR 60 (skR 60 r)).length + 1) (skR 60 (skR 60 r)) []) (Nat.le_trans (skR_le _ _) (skR_le _ _))
        · exact Nat.le_trans (pidL_le _) (skR_le _ _)
      · split
        · exact Nat.le_trans (refL_le _) (skR_le _ _)
        · split
          · exact Nat.le_trans (intL_le [45] (skR 45 r)) (skR_le _ _)
          · split
            · exact intL_le [] r
            · exact nameL_le r
theorem beginL_shr (r : List UInt8) (h : bgH (beginL r).1 ≠ .no) : (beginL r).2.length + 1 ≤ r.length := by
  unfold beginL at h ⊢
  split
  · rename_i h1
    have := skB_len h1
    have := opL_le 93 nilT (skR 91 r)
    omega
  · split
    · rename_i h1
      have := skB_len h1
      have := opL_le 125 (tupT []) (skR 123 r)
      omega
    · split
      · rename_i h1
        have h2 := skB_len h1
        split
        · have := binGo_le ((skR 60 (skR 60 r)).length + 1) (skR 60 (skR 60 r)) []
          have := skR_le 60 (skR 60 r)
          show (binGo _ _ _).2.length + 1 ≤ _
          omega
        · have := pidL_le (skR 60 r)
          show (pidL _).2.length + 1 ≤ _
          omega
      · split
        · rename_i h1
          have h2 := skB_len h1
          have := refL_le (skR 35 r)
          show (refL (skR 35 r)).2.length + 1 ≤ r.length
          omega
        · split
          · rename_i h1
            have h2 := skB_len h1
            have := intL_le [45] (skR 45 r)
            show (intL [45] (skR 45 r)).2.length + 1 ≤ r.length
            omega
          · split
            · rename_i h1
              show (intL [] r).2.length + 1 ≤ r.length
              exact intL_shr r h1
            · rename_i h1 h2 h3 h4 h5 h6
              rw [if_neg h1, if_neg h2, if_neg h3, if_neg h4, if_neg h5, if_neg h6] at h
              refine nameL_shr r ?_
              simp only [lfL, bgH] at h
              cases hn : (nameL r).1 with
              | none => rw [hn] at h; exact absurd rfl h
              | some x => rfl
theorem opL_ok (c : UInt8) (T : Tm) (r : List UInt8) (hc : c = 93 ∨ c = 125) : okH (bgH (opL c T r).1) ∧ wtH (bgH (opL c T r).1) = 1 := by
  unfold opL
  split
  · exact ⟨trivial, rfl⟩
  · exact ⟨⟨hc, fun e => by simp at e⟩, rfl⟩
theorem lfL_ok (p : Option Tm × List UInt8) : okH (bgH (lfL p).1) ∧ wtH (bgH (lfL p).1) ≤ 1 := by
  obtain ⟨o, r⟩ := p
  cases o with
  | none => exact ⟨trivial, by simp [lfL, bgH, hdO, wtH]⟩
  | some T => exact ⟨trivial, Nat.le_refl _⟩
theorem beginL_ok (r : List UInt8) : okH (bgH (beginL r).1) ∧ wtH (bgH (beginL r).1) ≤ 1 := by
  unfold beginL
  split
  · exact ⟨(opL_ok _ _ _ (.inl rfl)).1, Nat.le_of_eq (opL_ok _ _ _ (.inl rfl)).2⟩
  · split
    · exact ⟨(opL_ok _ _ _ (.inr rfl)).1, Nat.le_of_eq (opL_ok _ _ _ (.inr rfl)).2⟩
    · split
      · split
        · exact lfL_ok _
        · exact lfL_ok _
      · split
        · exact lfL_ok _
        · split
          · exact lfL_ok _
          · split
            · exact lfL_ok _
            · exact lfL_ok _
theorem okO_lt {o : Op} (h : okOp o) : o.c.toNat < 128 := by
  rcases h.1 with e | e <;> rw [e] <;> decide
theorem putL_vd {o : Op} {T : Tm} {r : List UInt8} (ho : okOp o) (h : Lib.validD r = true) : Lib.validD (putL o T r).2 = true := by
  unfold putL
  split
  · exact vd_skR (okO_lt ho) h
  · split
    · exact h
    · split
      · exact vd_skR (by decide) h
      · split
        · exact vd_skR (by decide) h
        · exact h
theorem putL_shr (o : Op) (T : Tm) (r : List UInt8) : (putL o T r).2.length ≤ r.length ∧ ((putL o T r).1 ≠ .no → (putL o T r).2.length + 1 ≤ r.length) := by
  unfold putL
  split
  · rename_i h
    have := skB_len h
    exact ⟨by simp only []; omega, fun _ => by simp only []; omega⟩
  · split
    · exact ⟨Nat.le_refl _, fun e => absurd rfl e⟩
    · split
      · rename_i h
        have := skB_len h
        exact ⟨by simp only []; omega, fun _ => by simp only []; omega⟩
      · split
        · rename_i h
          have := skB_len h.2
          exact ⟨by simp only []; omega, fun _ => by simp only []; omega⟩
        · exact ⟨Nat.le_refl _, fun e => absurd rfl e⟩
theorem putL_ok {o : Op} {T : Tm} {r : List UInt8} (ho : okOp o) : okH (putL o T r).1 ∧ wtH (putL o T r).1 ≤ wtO o + 1 := by
  unfold putL
  split
  · cases wholeL (o.add T) with
    | none => exact ⟨trivial, by simp [hdO, wtH]⟩
    | some x => exact ⟨trivial, by simp [hdO, wtH, wtO]⟩
  · split
    · exact ⟨trivial, by simp [wtH]⟩
    · rename_i hb
      split
      · refine ⟨⟨ho.1, fun e => absurd e hb⟩, ?_⟩
        simp [wtH, wtO, Op.add]; omega
      · split
        · rename_i h
          exact ⟨⟨ho.1, fun _ => ⟨by simp, h.1⟩⟩, by simp [wtH, wtO]; omega⟩
        · exact ⟨trivial, by simp [wtH]⟩
/-- fuel beyond what is wanted changes nothing -/
def hdF : Hd → List UInt8 → Nat
  | .no, _ => 1
  | _, r => r.length + 2
theorem hdF_begin {r : List UInt8} {n : Nat} (h : r.length + 1 ≤ n) : hdF (bgH (beginL r).1) (beginL r).2 ≤ n := by
  cases hb : bgH (beginL r).1 with
  | no => simp [hdF]; omega
  | tm T =>
    have := beginL_shr r (by rw [hb]; simp)
    simp [hdF]; omega
  | rw o =>
    have := beginL_shr r (by rw [hb]; simp)
    simp [hdF]; omega
theorem hdF_put {o : Op} {T : Tm} {r : List UInt8} {n : Nat} (h : r.length + 1 ≤ n) : hdF (putL o T r).1 (putL o T r).2 ≤ n := by
  cases hb : (putL o T r).1 with
  | no => simp [hdF]; omega
  | tm T' =>
    have := (putL_shr o T r).2 (by rw [hb]; simp)
    simp [hdF]; omega
  | rw o' =>
    have := (putL_shr o T r).2 (by rw [hb]; simp)
    simp [hdF]; omega
theorem runL_fuel : ∀ (n m : Nat) (r : List UInt8) (st : List Op) (hd : Hd), hdF hd r ≤ n → hdF hd r ≤ m → runL n r st hd = runL m r st hd
  | 0, _, r, _, hd, h, _ => by cases hd <;> simp [hdF] at h
  | _ + 1, 0, r, _, hd, _, h => by cases hd <;> simp [hdF] at h
  | n + 1, m + 1, r, st, .no, _, _ => rfl
  | n + 1, m + 1, r, st, .rw o, h, h' => by
    simp only [hdF] at h h'
    show runL n _ _ _ = runL m _ _ _
    exact runL_fuel n m _ _ _ (hdF_begin (by omega)) (hdF_begin (by omega))
  | n + 1, m + 1, r, [], .tm T, _, _ => rfl
  | n + 1, m + 1, r, o :: st, .tm T, h, h' => by
    simp only [hdF] at h h'
    show runL n _ _ _ = runL m _ _ _
    exact runL_fuel n m _ _ _ (hdF_put (by omega)) (hdF_put (by omega))
/-- the machine, whatever the fuel -/
def goL (r : List UInt8) (st : List Op) (hd : Hd) : Option Tm × List UInt8 := runL (r.length + 2) r st hd
theorem hdF_le (hd : Hd) (r : List UInt8) : hdF hd r ≤ r.length + 2 := by cases hd <;> simp [hdF]
theorem goL_rw (r : List UInt8) (st : List Op) (o : Op) : goL r st (.rw o) = goL (beginL r).2 (o :: st) (bgH (beginL r).1) := by
  show runL (r.length + 1) _ _ _ = runL _ _ _ _
  exact runL_fuel _ _ _ _ _ (hdF_begin (Nat.le_refl _)) (hdF_le _ _)
theorem goL_tm (r : List UInt8) (o : Op) (st : List Op) (T : Tm) : goL r (o :: st) (.tm T) = goL (putL o T r).2 st (putL o T r).1 := by
  show runL (r.length + 1) _ _ _ = runL _ _ _ _
  exact runL_fuel _ _ _ _ _ (hdF_put (Nat.le_refl _)) (hdF_le _ _)
theorem readL_go (r : List UInt8) : readL r = goL (beginL r).2 [] (bgH (beginL r).1) := runL_fuel _ _ _ _ _ (Nat.le_trans (hdF_begin (n := r.length + 1) (Nat.le_refl _)) (by omega)) (hdF_le _ _)
end Go.Proofs.YtjacoodfhkaioabGreatDoor
namespace Go.Proofs.YtjacoodfhkaioabGreatDoor
open Go.ChangeShapes Go.WideShapes Go.ChangeAt Go.RowKit Go.Shelf
set_option linter.unusedSimpArgs false
set_option linter.unusedVariables false
set_option maxRecDepth 2000

mutual
theorem dep_le : ∀ T : Tm, dep T ≤ (parts T).length
  | .mk k neg d nm n l b => by
    have := depL_le l
    unfold dep parts
    split <;> simp <;> omega
theorem depL_le : ∀ l : List Tm, depL l ≤ (partsL l).length
  | [] => by simp [depL]
  | t :: l => by
    have := dep_le t
    have := depL_le l
    simp only [depL, partsL, List.length_append]
    omega
end
/-- all parts are of a size that can be -/
def Gd (T : Tm) : Prop := ∀ p ∈ parts T, p.ok1
theorem gd_one {T : Tm} (h : parts T = [T]) (ho : T.ok1) : Gd T := fun p hp => by
  rw [h] at hp
  simp at hp
  subst hp; exact ho
theorem gd_int {l : List UInt8} (h : pE l = 0) : Gd (intT (pZ l)) := by
  refine gd_one (parts_int _) (ok_int ?_)
  have hz : pZ l = sv (pneg l) (pval (pdig l)) := by unfold pZ; rw [if_pos h]
  have hn : (pZ l).natAbs = pval (pdig l) := by rw [hz]; unfold sv; split <;> simp
  rw [hn]
  unfold pE at h
  split at h
  · split at h
    · simp at h
    · omega
  · simp at h
theorem gd_num (k n : Int) : Gd (numT k n) := gd_one (by simp [numT, parts, partsL]) ⟨by simp, by decide, by simp, by simp, Lm.nil _⟩
theorem gd_nil : Gd nilT := gd_one parts_nil ⟨by simp, by decide, by simp, by simp, Lm.nil _⟩
theorem gd_bin {b : List Nat} (h : b.length ≤ 1000000) : Gd (binT b) := gd_one (parts_bin b) ⟨by simp, by decide, by simp, h, Lm.nil _⟩
theorem gd_atom {nm : ByteArray} (h : nm.size ≤ 1000000) : Gd (atomT nm) := gd_one (parts_atom nm) ⟨by simp, h, by simp, by simp, Lm.nil _⟩
theorem gd_mem {l : List Tm} (h : ∀ t ∈ l, Gd t) : ∀ p ∈ partsL l, p.ok1 := fun p hp => by
  induction l with
  | nil => simp [partsL] at hp
  | cons t l ih =>
    simp only [partsL, List.mem_append] at hp
    rcases hp with hp | hp
    · exact h t (by simp) p hp
    · exact ih (fun t' ht' => h t' (by simp [ht'])) hp
theorem gd_tup {l : List Tm} (hl : l.length ≤ 1000000) (h : ∀ t ∈ l, Gd t) : Gd (tupT l) := fun p hp => by
  rw [parts_tup] at hp
  rcases List.mem_cons.1 hp with rfl | hp
  · exact ⟨by simp, by decide, hl, by simp, Lm.nil _⟩
  · exact gd_mem h p hp
theorem gd_cons {a b : Tm} (ha : Gd a) (hb : Gd b) : Gd (consT a b) := fun p hp => by
  rw [parts_cons] at hp
  rcases List.mem_cons.1 hp with rfl | hp
  · exact ok_cons a b
  · rcases List.mem_append.1 hp with hp | hp
    · exact ha p hp
    · exact hb p hp
theorem gd_consL : ∀ {l : List Tm} {t : Tm}, (∀ x ∈ l, Gd x) → Gd t → Gd (consL l t)
  | [], _, _, ht => ht
  | x :: l, t, h, ht => gd_cons (h x (by simp)) (gd_consL (fun y hy => h y (by simp [hy])) ht)
theorem parts_consL : ∀ (l : List Tm) (t : Tm), (parts (consL l t)).length = l.length + (partsL l).length + (parts t).length
  | [], t => by simp [consL, partsL]
  | x :: l, t => by
    have := parts_consL l t
    show (parts (consT x (consL l t))).length = _
    rw [parts_cons]
    simp only [List.length_cons, List.length_append, partsL, this]
    omega
theorem partsL_app : ∀ a b : List Tm, (partsL (a ++ b)).length = (partsL a).length + (partsL b).length
  | [], b => by simp [partsL]
  | x :: a, b => by
    have := partsL_app a b
    simp only [List.cons_append, partsL, List.length_append, this]
    omega
theorem partsL_one (t : Tm) : (partsL [t]).length = (parts t).length := by simp [partsL]
/-- what is held, by parts -/
def ptO (o : Op) : Nat := 2 + (partsL o.its).length + o.its.length
def ptS : List Op → Nat
  | [] => 0
  | o :: st => ptO o + ptS st
def ptH : Hd → Nat
  | .no => 0
  | .tm T => (parts T).length + 1
  | .rw o => ptO o
def gdH : Hd → Prop
  | .no => True
  | .tm T => Gd T
  | .rw o => ∀ t ∈ o.its, Gd t
theorem nmB_len (m : Int) (r : List UInt8) (acc : List Nat) (k : Nat) : (binGo k r acc).1 = none ∨ ∃ b, (binGo k r acc).1 = some (binT b) ∧ b.length ≤ acc.length + r.length := by
  induction k generalizing r acc with
  | zero => exact .inl rfl
  | succ k ih =>
    obtain ⟨q, hq⟩ : ∃ q, (if acc = [] then r else skR 44 r) = q := ⟨_, rfl⟩
    have hql : q.length ≤ r.length := by
      rw [← hq]; split
      · exact Nat.le_refl _
      · exact skR_le _ _
    rw [bin_one, hq]
    split
    · split
      · exact .inr ⟨acc, rfl, by omega⟩
      · exact .inl rfl
    · split
      · exact .inl rfl
      · split
        · rename_i hn
          have h1 := nm_pos hn
          rcases ih (q.dropWhile digB) (acc ++ [(nmN 255 (q.takeWhile digB)).toNat]) with h | ⟨b, hb, hl⟩
          · exact .inl h
          · refine .inr ⟨b, hb, ?_⟩
            rw [List.length_append] at hl
            simp only [List.length_cons, List.length_nil] at hl
            omega
        · exact .inl rfl
/-- a leaf that was read -/
def LfOk (o : Option Tm) : Prop := ∀ T, o = some T → Gd T ∧ (parts T).length = 1
theorem lf_pid (r : List UInt8) : LfOk (pidL r).1 := by
  intro T h
  unfold pidL at h
  split at h
  · simp only [] at h
    split at h
    · cases h; exact ⟨gd_num _ _, by simp [numT, parts, partsL]⟩
    · cases h
  · cases h
theorem lf_ref (r : List UInt8) : LfOk (refL r).1 := by
  intro T h
  unfold refL at h
  simp only [] at h
  split at h
  · cases h; exact ⟨gd_num _ _, by simp [numT, parts, partsL]⟩
  · cases h
theorem lf_int (m r : List UInt8) : LfOk (intL m r).1 := by
  intro T h
  unfold intL at h
  simp only [] at h
  split at h
  · rename_i h0
    cases h; exact ⟨gd_int h0, by rw [parts_int]; rfl⟩
  · cases h
theorem lf_bin (r : List UInt8) (hr : r.length ≤ 1000000) : LfOk (binL r).1 := by
  intro T h
  unfold binL at h
  rcases nmB_len 0 r [] (r.length + 1) with h1 | ⟨b, hb, hl⟩
  · rw [h1] at h; cases h
  · rw [hb] at h
    cases h
    exact ⟨gd_bin (by simp at hl; omega), by rw [parts_bin]; rfl⟩
theorem lf_name (r : List UInt8) : LfOk (nameL r).1 := by
  intro T h
  unfold nameL at h
  split at h
  · split at h
    · simp only [Option.some.injEq] at h
      subst h
      refine ⟨gd_atom ?_, by rw [parts_atom]; rfl⟩
      rw [bs_size]
      have := (unq_sizes (r.take (nearN r)) (by have := nearN_le r; omega)).1
      omega
    · cases h
  · cases h
theorem beginL_gd (r : List UInt8) (hr : r.length ≤ 1000000) : gdH (bgH (beginL r).1) ∧ ptH (bgH (beginL r).1) ≤ 2 := by
  have lf : ∀ p : Option Tm × List UInt8, LfOk p.1 → gdH (bgH (lfL p).1) ∧ ptH (bgH (lfL p).1) ≤ 2 := by
    rintro ⟨o, q⟩ ho
    cases o with
    | none => exact ⟨trivial, by simp [lfL, bgH, hdO, ptH]⟩
    | some T =>
      have h := ho T rfl
      exact ⟨h.1, by show (parts T).length + 1 ≤ 2; omega⟩
  have op : ∀ (c : UInt8) (T : Tm) (q : List UInt8), Gd T → (parts T).length = 1 → gdH (bgH (opL c T q).1) ∧ ptH (bgH (opL c T q).1) ≤ 2 := by
    intro c T q hg hp
    unfold opL
    split
    · exact ⟨hg, by show (parts T).length + 1 ≤ 2; omega⟩
    · exact ⟨fun t ht => by simp at ht, by show 2 + (partsL []).length + 0 ≤ 2; simp [partsL]⟩
  unfold beginL
  split
  · exact op _ _ _ gd_nil (by rw [parts_nil]; rfl)
  · split
    · exact op _ _ _ (gd_tup (by simp) (fun t ht => by simp at ht)) (by rw [parts_tup]; simp [partsL])
    · split
      · split
        · exact lf _ (lf_bin _ (Nat.le_trans (Nat.le_trans (skR_le _ _) (skR_le _ _)) hr))
        · exact lf _ (lf_pid _)
      · split
        · exact lf _ (lf_ref _)
        · split
          · exact lf _ (lf_int _ _)
          · split
            · exact lf _ (lf_int _ _)
            · exact lf _ (lf_name _)
theorem whole_gd {o : Op} {t : Tm} (h : wholeL o = some t) (hg : ∀ x ∈ o.its, Gd x) (hl : o.its.length ≤ 1000000) : Gd t ∧ (parts t).length + 1 ≤ ptO o := by
  unfold wholeL at h
  split at h
  · cases h
    exact ⟨gd_tup hl hg, by rw [parts_tup]; simp only [List.length_cons, ptO]; omega⟩
  · split at h
    · split at h
      · cases h
      · rename_i e he
        have hin : o.its ≠ [] := fun e2 => by rw [e2] at he; simp at he
        have hd : o.its = o.its.dropLast ++ [e] := by
          have h1 := List.dropLast_concat_getLast hin
          have h2 : o.its.getLast hin = e := by rw [List.getLast?_eq_some_getLast hin] at he; exact Option.some.inj he
          rw [h2] at h1; exact h1.symm
        split at h
        · cases h
        · cases h
          refine ⟨gd_consL (fun x hx => hg x (List.dropLast_subset _ hx)) (hg e (by rw [hd]; simp)), ?_⟩
          rw [parts_consL]
          unfold ptO
          have h3 := partsL_app o.its.dropLast [e]
          rw [← hd, partsL_one] at h3
          have h4 := congrArg List.length hd
          rw [List.length_append] at h4
          simp only [List.length_cons, List.length_nil] at h4
          omega
    · cases h
      refine ⟨gd_consL hg gd_nil, ?_⟩
      rw [parts_consL, parts_nil]
      unfold ptO
      simp only [List.length_cons, List.length_nil]
      omega
theorem putL_gd {o : Op} {T : Tm} {r : List UInt8} (hg : ∀ x ∈ o.its, Gd x) (hT : Gd T) (hl : o.its.length + 1 ≤ 1000000) : gdH (putL o T r).1 ∧ ptH (putL o T r).1 ≤ ptO o + (parts T).length + 1 := by
  have hga : ∀ x ∈ o.its ++ [T], Gd x := fun x hx => (List.mem_append.1 hx).elim (hg x) (fun h => by simp at h; subst h; exact hT)
  have hpa : ptO (o.add T) = ptO o + (parts T).length + 1 := by
    unfold ptO Op.add
    rw [partsL_app, partsL_one, List.length_append]
    simp only [List.length_cons, List.length_nil]
    omega
  unfold putL
  split
  · cases hw : wholeL (o.add T) with
    | none => exact ⟨trivial, by simp [hdO, ptH]⟩
    | some t =>
      have := whole_gd hw hga (by simp [Op.add]; omega)
      exact ⟨this.1, by show (parts t).length + 1 ≤ _; omega⟩
  · split
    · exact ⟨trivial, by simp [ptH]⟩
    · split
      · exact ⟨hga, by show ptO (o.add T) ≤ _; omega⟩
      · split
        · exact ⟨hga, by show ptO (o.add T) ≤ _; omega⟩
        · exact ⟨trivial, by simp [ptH]⟩
theorem run_gd : ∀ (n : Nat) (r : List UInt8) (st : List Op) (hd : Hd), r.length ≤ 1000000 → gdH hd → (∀ o ∈ st, ∀ x ∈ o.its, Gd x) → ptS st + ptH hd + 2 * r.length ≤ 900000 → ∀ T, (runL n r st hd).1 = some T → Gd T ∧ (parts T).length ≤ 900000
  | 0, _, _, _, _, _, _, _, T, h => by simp [runL] at h
  | n + 1, r, st, .no, _, _, _, _, T, h => by simp [runL] at h
  | n + 1, r, st, .rw o, hr, hg, hs, hp, T, h => by
    have h1 := beginL_gd r hr
    have h2 := beginL_le r
    refine run_gd n (beginL r).2 (o :: st) (bgH (beginL r).1) (by omega) h1.1 (fun o' ho' => (List.mem_cons.1 ho').elim (fun e => e ▸ hg) (hs o')) ?_ T h
    have hp2 : ptS st + ptO o + 2 * r.length ≤ 900000 := hp
    show ptO o + ptS st + ptH (bgH (beginL r).1) + 2 * (beginL r).2.length ≤ 900000
    by_cases hno : bgH (beginL r).1 = .no
    · rw [hno]; simp only [ptH]; omega
    · have := beginL_shr r hno; omega
  | n + 1, r, [], .tm T', hr, hg, hs, hp, T, h => by
    have e : T' = T := by simpa [runL] using h
    subst e
    have hp2 : 0 + ((parts T').length + 1) + 2 * r.length ≤ 900000 := hp
    exact ⟨hg, by omega⟩
  | n + 1, r, o :: st, .tm T', hr, hg, hs, hp, T, h => by
    have hp2 : ptO o + ptS st + ((parts T').length + 1) + 2 * r.length ≤ 900000 := hp
    have hol : o.its.length + 2 ≤ 900000 := by unfold ptO at hp2; omega
    have h1 := putL_gd (o := o) (T := T') (r := r) (hs o (by simp)) hg (by omega)
    have h2 := (putL_shr o T' r).1
    refine run_gd n (putL o T' r).2 st (putL o T' r).1 (by omega) h1.1 (fun o' ho' => hs o' (List.mem_cons_of_mem _ ho')) ?_ T h
    omega
theorem runL_le : ∀ (n : Nat) (r : List UInt8) (st : List Op) (hd : Hd), (runL n r st hd).2.length ≤ r.length
  | 0, _, _, _ => Nat.le_refl _
  | _ + 1, _, _, .no => Nat.le_refl _
  | n + 1, r, st, .rw o => Nat.le_trans (runL_le n _ _ _) (beginL_le r)
  | _ + 1, _, [], .tm _ => Nat.le_refl _
  | n + 1, r, o :: st, .tm T => Nat.le_trans (runL_le n _ _ _) (putL_shr o T r).1
theorem readL_le (r : List UInt8) : (readL r).2.length ≤ r.length := Nat.le_trans (runL_le _ _ _ _) (beginL_le r)
theorem readL_gd {r : List UInt8} (hr : r.length ≤ 400000) {T : Tm} (h : (readL r).1 = some T) : Gd T ∧ dep T ≤ 1000000 := by
  have h1 := beginL_gd r (by omega)
  have h2 := beginL_le r
  have h3 := run_gd (r.length + 2) (beginL r).2 [] (bgH (beginL r).1) (by omega) h1.1 (fun o ho => by simp at ho) (by
    simp only [ptS]
    omega) T h
  exact ⟨h3.1, Nat.le_trans (dep_le T) (by omega)⟩
end Go.Proofs.YtjacoodfhkaioabGreatDoor
namespace Go.Proofs.YtjacoodfhkaioabGreatDoor
open Go.ChangeShapes Go.WideShapes Go.ChangeAt Go.RowKit Go.Shelf
set_option linter.unusedSimpArgs false
set_option linter.unusedVariables false
set_option maxRecDepth 2000
/-- digits, the highest first, as signs -/
def dg (ds : List Nat) : List UInt8 := ds.map fun x => UInt8.ofNat (48 + x)
theorem dg_byte {x : Nat} (h : x < 10) : (UInt8.ofNat (48 + x)).toNat = 48 + x := by simp; omega
theorem dg_val : ∀ (l : List Nat), Lm 10 l → pval (dg l.reverse) = gval 10 l
  | [], _ => rfl
  | x :: t, h => by
    rw [List.reverse_cons]
    unfold dg
    rw [List.map_append]
    show pval (dg t.reverse ++ [UInt8.ofNat (48 + x)]) = x + 10 * gval 10 t
    rw [pval_snoc, dg_val t h.tail, dg_byte h.head]
    omega
theorem dg_digs {ds : List Nat} (h : Lm 10 ds) : isDigs (dg ds) = true := by
  unfold isDigs
  rw [List.all_eq_true]
  intro x hx
  obtain ⟨d, hd, rfl⟩ := List.mem_map.1 hx
  have h9 := h d hd
  rw [dg_byte h9]
  simp; omega
theorem Lm.reverse {b : Nat} {l : List Nat} (h : Lm b l) : Lm b l.reverse := fun x hx => h x (by simpa using hx)
theorem txt_dg {Z : Int} (h : Z ≠ 0) : txt Z = (if Z < 0 then [45] else []) ++ dg (glim 10 Z.natAbs).reverse := by
  unfold txt txtN
  rw [if_neg h, List.reverse_append, List.map_append]
  congr 1
  · split <;> rfl
  · unfold dg
    rw [← List.map_reverse, List.map_map]
    rfl
theorem big_ten {n : Nat} (h : (glim 4294967296 n).length ≤ 64) : (glim 10 n).length ≤ 620 := by
  obtain ⟨k, hk⟩ : ∃ k, k = 10 := ⟨_, rfl⟩
  obtain ⟨m, hm⟩ : ∃ m, m = 64 := ⟨_, rfl⟩
  rw [← hm] at h
  rw [show 620 = 62 * k by omega]
  rw [glim_len (by omega)] at h ⊢
  have h1 : ((2 : Nat) ^ 205) ^ k ≤ (10 ^ 62) ^ k := Nat.pow_le_pow_left (by decide) k
  have h2 : (10 : Nat) ^ (62 * k) = (10 ^ 62) ^ k := Nat.pow_mul ..
  have h3 : (4294967296 : Nat) ^ m ≤ (2 ^ 205) ^ k := by
    rw [show (4294967296 : Nat) = 2 ^ 32 by decide, ← Nat.pow_mul, ← Nat.pow_mul]
    exact Nat.pow_le_pow_right (by decide) (by omega)
  rw [h2]
  exact Nat.lt_of_lt_of_le h (Nat.le_trans h3 h1)
theorem sv_decide (Z : Int) : sv (decide (Z < 0)) Z.natAbs = Z := by
  unfold sv
  by_cases hz : Z < 0
  · simp only [hz, decide_true, if_true]; omega
  · simp only [hz, decide_false, Bool.false_eq_true, if_false]; omega
theorem read_of {neg : Bool} {d : List UInt8} (hok : okNum d = true) (hz : ¬ (neg = true ∧ d = [48])) (hl : d.length ≤ 620) (hg : (glim 4294967296 (pval d)).length ≤ 64) (hfst : neg = false → Lib.hasPrefix d [45] = false) :
    pE ((if neg then [45] else []) ++ d) = 0 ∧ pZ ((if neg then [45] else []) ++ d) = sv neg (pval d) := by
  have h1 : pneg ((if neg then [45] else []) ++ d) = neg := by
    cases neg with
    | false => exact hfst rfl
    | true => simp [pneg, Lib.hasPrefix]
  have h2 : pdig ((if neg then [45] else []) ++ d) = d := by
    unfold pneg at h1
    unfold pdig Lib.trimPrefix
    rw [h1]
    cases neg <;> rfl
  have h3 : pok ((if neg then [45] else []) ++ d) = true := by
    unfold pok
    rw [h1, h2, hok]
    simp
    cases neg
    · simp
    · right; intro e; exact hz ⟨rfl, e⟩
  have h4 : pE ((if neg then [45] else []) ++ d) = 0 := by
    unfold pE
    rw [if_pos h3, h2, if_neg (by omega)]
  refine ⟨h4, ?_⟩
  unfold pZ
  rw [if_pos h4, h1, h2]
theorem read_txt {Z : Int} (h : (glim 4294967296 Z.natAbs).length ≤ 64) : pE (txt Z) = 0 ∧ pZ (txt Z) = Z := by
  by_cases hz : Z = 0
  · subst hz
    have e : txt 0 = [48] := rfl
    rw [e]
    exact read_of (neg := false) (d := [48]) (by decide) (by simp) (by decide) (by rw [show pval [48] = 0 by decide, glim_zero]; decide) (by decide)
  · have hn : 0 < Z.natAbs := by omega
    rw [txt_dg hz]
    have hL := lm_glim (b := 10) (by omega) Z.natAbs
    have hv : pval (dg (glim 10 Z.natAbs).reverse) = Z.natAbs := by rw [dg_val _ hL, gval_glim (by omega)]
    obtain ⟨x, hx, hx0⟩ := glim_last (b := 10) (by omega) Z.natAbs hn
    have hx9 : x < 10 := hL x (List.mem_of_getElem? hx)
    obtain ⟨t, ht⟩ : ∃ t, (glim 10 Z.natAbs).reverse = x :: t := by
      cases hr : (glim 10 Z.natAbs).reverse with
      | nil => exact absurd (List.reverse_eq_nil_iff.1 hr) (glim_ne (by omega) hn)
      | cons y t =>
        have h1 : (glim 10 Z.natAbs).getLast? = some y := by rw [← List.head?_reverse, hr]; rfl
        rw [List.getLast?_eq_getElem?, hx] at h1
        injection h1 with h1
        exact ⟨t, by rw [h1]⟩
    have hd : isDigs (dg (x :: t)) = true := by rw [← ht]; exact dg_digs hL.reverse
    have hne : (UInt8.ofNat (48 + x)) ≠ 48 := fun e => by
      have := congrArg UInt8.toNat e
      rw [dg_byte hx9] at this
      have h48 : (48 : UInt8).toNat = 48 := rfl
      omega
    have hne5 : (UInt8.ofNat (48 + x)) ≠ 45 := fun e => by
      have := congrArg UInt8.toNat e
      rw [dg_byte hx9] at this
      have h48 : (45 : UInt8).toNat = 45 := rfl
      omega
    have hok : okNum (dg (x :: t)) = true := by
      unfold okNum
      rw [hd]
      show (true && (_ || ((dg (x :: t)) != [] && ((dg (x :: t)).head? != some 48)))) = true
      have e1 : (dg (x :: t)) != [] := rfl
      have e2 : ((dg (x :: t)).head? != some 48) = true := by
        show (some (UInt8.ofNat (48 + x)) != some 48) = true
        simp only [bne_iff_ne, ne_eq, Option.some.injEq]
        exact hne
      rw [e1, e2]; simp
    rw [ht] at hv
    rw [ht]
    have hlen : (dg (x :: t)).length ≤ 620 := by
      unfold dg
      rw [List.length_map, ← ht, List.length_reverse]
      exact big_ten h
    have := read_of (neg := decide (Z < 0)) (d := dg (x :: t)) hok (fun ⟨_, e⟩ => hne (by injection e)) hlen (by rw [hv]; exact h) (fun _ => by
      have e45 : ((45 : UInt8) == UInt8.ofNat (48 + x)) = false := by rw [beq_eq_false_iff_ne]; exact fun e => hne5 e.symm
      show ([45] : List UInt8).isPrefixOf (UInt8.ofNat (48 + x) :: dg t) = false
      simp only [List.isPrefixOf, e45, Bool.false_and])
    rw [hv, sv_decide] at this
    simpa using this
end Go.Proofs.YtjacoodfhkaioabGreatDoor
namespace Go.Proofs.YtjacoodfhkaioabGreatDoor
open Go.ChangeShapes Go.WideShapes Go.ChangeAt Go.RowKit Go.Shelf
set_option linter.unusedSimpArgs false
set_option linter.unusedVariables false
set_option maxRecDepth 2000

/-- what stands behind a term and goes on with none -/
def Fol (q : List UInt8) : Prop := ∀ b t, q = b :: t → bareB b.toNat false = false
theorem fol_cons {b : UInt8} (t : List UInt8) (h : bareB b.toNat false = false) : Fol (b :: t) := fun b' t' e => by
  injection e with e1 e2
  rw [← e1]; exact h
theorem dig_bare {b : UInt8} (h : digB b = true) : bareB b.toNat false = true := by
  simp only [digB, Bool.and_eq_true, decide_eq_true_eq] at h
  simp [bareB, h.1, h.2]
theorem fol_dig {b : UInt8} {t : List UInt8} (h : Fol (b :: t)) : digB b = false := by
  have := h b t rfl
  cases hd : digB b with
  | false => rfl
  | true => rw [dig_bare hd] at this; cases this
theorem tw_app {d q : List UInt8} (hd : ∀ x ∈ d, digB x = true) (hq : ∀ b t, q = b :: t → digB b = false) : (d ++ q).takeWhile digB = d ∧ (d ++ q).dropWhile digB = q := by
  induction d with
  | nil =>
    cases q with
    | nil => exact ⟨rfl, rfl⟩
    | cons b t =>
      have h := hq b t rfl
      simp only [List.nil_append]
      rw [List.takeWhile_cons_of_neg (by simp [h]), List.dropWhile_cons_of_neg (by simp [h])]
      exact ⟨rfl, rfl⟩
  | cons x d ih =>
    have hx := hd x (by simp)
    obtain ⟨h1, h2⟩ := ih (fun y hy => hd y (by simp [hy]))
    rw [List.cons_append, List.takeWhile_cons_of_pos hx, List.dropWhile_cons_of_pos hx, h1, h2]
    exact ⟨rfl, rfl⟩
theorem dec_txt (n : Nat) : Lib.decDigits n = txt (n : Int) := by
  induction n using Nat.strongRecOn with
  | ind n ih =>
    by_cases h0 : n = 0
    · subst h0; rw [dec_low (by omega)]; rfl
    · have e : txt (n : Int) = dg (glim 10 n).reverse := by
        rw [txt_dg (by omega), if_neg (by omega)]
        simp
      rw [e]
      by_cases h10 : n < 10
      · rw [dec_low h10, glim_pos (by omega) (by omega), show n / 10 = 0 by omega, glim_zero]
        simp [dg, Nat.mod_eq_of_lt h10]
      · rw [dec_high h10, ih (n / 10) (by omega), txt_dg (by omega), if_neg (by omega), glim_pos (b := 10) (n := n) (by omega) (by omega), Int.natAbs_natCast]
        simp [dg]
theorem itoa_txt {n : Int} (h : 0 ≤ n) : Lib.itoa n = txt n := by
  obtain ⟨m, rfl⟩ := Int.eq_ofNat_of_zero_le h
  unfold Lib.itoa
  rw [if_neg (by omega)]
  exact dec_txt m
theorem dg_dig {ds : List Nat} (h : Lm 10 ds) : ∀ x ∈ dg ds, digB x = true := by
  intro x hx
  unfold dg at hx
  obtain ⟨d, hd, rfl⟩ := List.mem_map.1 hx
  have := h d hd
  simp only [digB, Bool.and_eq_true, decide_eq_true_eq]
  rw [dg_byte this]
  omega
theorem txt_dig {n : Int} (h : 0 ≤ n) : ∀ x ∈ txt n, digB x = true := by
  by_cases h0 : n = 0
  · subst h0
    intro x hx
    have e : txt 0 = [48] := rfl
    rw [e] at hx
    simp at hx
    subst hx; rfl
  · rw [txt_dg h0, if_neg (by omega)]
    exact dg_dig (lm_glim (by omega) _).reverse
theorem txt_neg {n : Int} (h : n < 0) : ∃ d, txt n = 45 :: d ∧ d ≠ [] ∧ ∀ x ∈ d, digB x = true := by
  rw [txt_dg (by omega), if_pos h]
  refine ⟨_, rfl, ?_, dg_dig (lm_glim (by omega) _).reverse⟩
  intro e
  have h1 := congrArg List.length e
  have h2 := glim_ne (b := 10) (n := n.natAbs) (by omega) (by omega)
  simp [dg] at h1
  exact h2 h1
theorem txt_ne {n : Int} (h : 0 ≤ n) : txt n ≠ [] := by
  by_cases h0 : n = 0
  · subst h0; decide
  · rw [txt_dg h0, if_neg (by omega)]
    intro e
    have h1 := congrArg List.length e
    have h2 := glim_ne (b := 10) (n := n.natAbs) (by omega) (by omega)
    simp [dg] at h1
    exact h2 h1
theorem lim_small {n : Int} (h : n.natAbs < 4294967296) : (glim 4294967296 n.natAbs).length ≤ 64 := Nat.le_trans ((glim_len (by omega) n.natAbs 1).2 (by omega)) (by omega)
/-- a number that was written is read -/
theorem nm_txt {n m : Int} (h0 : 0 ≤ n) (hm : n ≤ m) (h2 : m ≤ 1073741824) : nmB m (txt n) = true ∧ nmN m (txt n) = n := by
  obtain ⟨h3, h4⟩ := read_txt (Z := n) (lim_small (by omega))
  obtain ⟨h5, h6⟩ := sml_yes (Z := n) (by omega) (by omega)
  have hb : nmB m (txt n) = true := by
    unfold nmB
    rw [h3, h4, h5, h6]
    simp [hm]
  refine ⟨hb, ?_⟩
  unfold nmN
  rw [if_pos hb, h4, h6]
theorem fol_hd {q : List UInt8} (h : Fol q) : ∀ b t, q = b :: t → digB b = false := fun b t e => by
  subst e; exact fol_dig h
theorem ref_back {n : Int} {q : List UInt8} (h0 : 0 ≤ n) (h1 : n ≤ 1073741824) (hq : Fol q) : refL (Lib.itoa n ++ q) = (some (numT 2 n), q) := by
  rw [itoa_txt h0]
  obtain ⟨e1, e2⟩ := tw_app (txt_dig h0) (fol_hd hq)
  obtain ⟨e3, e4⟩ := nm_txt h0 h1 (Int.le_refl _)
  unfold refL
  rw [e1, e2, e3, if_pos rfl, e4]
theorem skB_self (c : UInt8) (q : List UInt8) : skB c (c :: q) = true ∧ skR c (c :: q) = q := by
  constructor
  · simp [skB]
  · simp [skR]
theorem skB_no {c b : UInt8} (q : List UInt8) (h : b ≠ c) : skB c (b :: q) = false ∧ skR c (b :: q) = b :: q := by
  have : skB c (b :: q) = false := by simp [skB, h]
  exact ⟨this, skR_no this⟩
theorem pid_back {n : Int} {q : List UInt8} (h0 : 0 ≤ n) (h1 : n ≤ 1073741824) : pidL (Lib.itoa n ++ 62 :: q) = (some (numT 3 n), q) := by
  rw [itoa_txt h0]
  obtain ⟨e1, e2⟩ := tw_app (q := 62 :: q) (txt_dig h0) (fun b t e => by injection e with e _; subst e; decide)
  obtain ⟨e3, e4⟩ := nm_txt h0 h1 (Int.le_refl _)
  unfold pidL
  rw [e1, e2, e3, if_pos rfl, e4, (skB_self 62 q).1, (skB_self 62 q).2, if_pos rfl]
theorem int_back {Z : Int} {q : List UInt8} (hl : (glim 4294967296 Z.natAbs).length ≤ 64) (hq : Fol q) (h0 : 0 ≤ Z) : intL [] (txt Z ++ q) = (some (intT Z), q) := by
  obtain ⟨e1, e2⟩ := tw_app (txt_dig h0) (fol_hd hq)
  obtain ⟨e3, e4⟩ := read_txt hl
  unfold intL
  rw [e1, e2, List.nil_append, e3, if_pos rfl, e4]
theorem int_back2 {Z : Int} {q d : List UInt8} (hl : (glim 4294967296 Z.natAbs).length ≤ 64) (hq : Fol q) (hd : txt Z = 45 :: d) (hdd : ∀ x ∈ d, digB x = true) : intL [45] (d ++ q) = (some (intT Z), q) := by
  obtain ⟨e1, e2⟩ := tw_app hdd (fol_hd hq)
  obtain ⟨e3, e4⟩ := read_txt hl
  rw [hd] at e3 e4
  unfold intL
  rw [e1, e2]
  show (if pE (45 :: d) = 0 then some (intT (pZ (45 :: d))) else none, q) = _
  rw [e3, if_pos rfl, e4]
end Go.Proofs.YtjacoodfhkaioabGreatDoor
namespace Go.Proofs.YtjacoodfhkaioabGreatDoor
open Go.ChangeShapes Go.WideShapes Go.ChangeAt Go.RowKit Go.Shelf
set_option linter.unusedSimpArgs false
set_option linter.unusedVariables false
set_option maxRecDepth 2000

/-- rows of signs, a comma ahead of each -/
def comL : List (List UInt8) → List UInt8
  | [] => []
  | x :: l => 44 :: (x ++ comL l)
theorem joinC_com (x : List UInt8) (l : List (List UInt8)) : joinC (x :: l) = x ++ comL l := by
  induction l generalizing x with
  | nil => simp [joinC, comL]
  | cons y l ih => rw [joinC, ih y, comL]
theorem byT_dig (x : Nat) : ∀ y ∈ byT x, digB y = true := by
  unfold byT
  rw [itoa_txt (by omega)]
  exact txt_dig (by omega)
theorem byT_ne (x : Nat) : byT x ≠ [] := by
  unfold byT
  rw [itoa_txt (by omega)]
  exact txt_ne (by omega)
theorem byT_nm {x : Nat} (h : x < 256) : nmB 255 (byT x) = true ∧ (nmN 255 (byT x)).toNat = x := by
  unfold byT
  rw [itoa_txt (by omega)]
  obtain ⟨h1, h2⟩ := nm_txt (n := (x : Int)) (m := 255) (by omega) (by omega) (by omega)
  exact ⟨h1, by rw [h2]; omega⟩
theorem com_hd (l : List Nat) (q : List UInt8) : ∀ b t, comL (l.map byT) ++ 62 :: 62 :: q = b :: t → digB b = false := fun b t e => by
  cases l with
  | nil => simp only [List.map_nil, comL, List.nil_append] at e; injection e with e _; subst e; decide
  | cons y l => simp only [List.map_cons, comL, List.cons_append] at e; injection e with e _; subst e; decide
theorem byT_skB (c : UInt8) (x : Nat) (q : List UInt8) (h : digB c = false) : skB c (byT x ++ q) = false := by
  cases hb : byT x with
  | nil => exact absurd hb (byT_ne x)
  | cons b t =>
    have h1 := byT_dig x b (by rw [hb]; simp)
    have : b ≠ c := fun e => by rw [e, h] at h1; cases h1
    rw [List.cons_append]
    exact (skB_no _ this).1
theorem bin_back : ∀ (b acc : List Nat) (k : Nat) (q : List UInt8), (∀ x ∈ b, x < 256) → b.length ≤ k → acc ≠ [] → binGo (k + 1) (comL (b.map byT) ++ 62 :: 62 :: q) acc = (some (binT (acc ++ b)), q)
  | [], acc, k, q, _, _, _ => by
    rw [List.map_nil, comL, List.nil_append, bin_one, (skB_self 62 (62 :: q)).1, if_pos rfl, (skB_self 62 (62 :: q)).2, (skB_self 62 q).1, if_pos rfl, (skB_self 62 q).2, List.append_nil]
  | x :: b, acc, 0, q, _, hk, _ => by simp at hk
  | x :: b, acc, k + 1, q, hb, hk, hacc => by
    have hx := hb x (by simp)
    obtain ⟨h1, h2⟩ := byT_nm hx
    have hf := com_hd b q
    obtain ⟨e1, e2⟩ := tw_app (byT_dig x) hf
    rw [List.map_cons, comL, List.cons_append, List.append_assoc, bin_one, (skB_no (c := 62) (b := 44) _ (by decide)).1, if_neg (by simp), (skB_self 44 _).1, if_neg (by simp), if_neg hacc, (skB_self 44 _).2, e1, e2, h1, if_pos rfl, h2]
    rw [bin_back b (acc ++ [x]) k q (fun y hy => hb y (by simp [hy])) (by simp at hk; omega) (by simp)]
    simp
theorem bin_read {b : List Nat} (q : List UInt8) (hb : ∀ x ∈ b, x < 256) : binL (joinC (b.map byT) ++ 62 :: 62 :: q) = (some (binT b), q) := by
  unfold binL
  cases b with
  | nil =>
    rw [List.map_nil]
    show binGo _ (62 :: 62 :: q) [] = _
    rw [bin_one, (skB_self 62 (62 :: q)).1, if_pos rfl, (skB_self 62 (62 :: q)).2, (skB_self 62 q).1, if_pos rfl, (skB_self 62 q).2]
  | cons x b =>
    have hx := hb x (by simp)
    obtain ⟨h1, h2⟩ := byT_nm hx
    have hf := com_hd b q
    obtain ⟨e1, e2⟩ := tw_app (byT_dig x) hf
    have hlen : b.length + 1 ≤ (joinC ((x :: b).map byT) ++ 62 :: 62 :: q).length := by
      have h3 : ∀ l : List Nat, l.length ≤ (comL (l.map byT)).length := by
        intro l
        induction l with
        | nil => simp
        | cons y l ih => simp only [List.map_cons, comL, List.length_cons, List.length_append]; omega
      have h4 := h3 b
      rw [List.map_cons, joinC_com]
      simp only [List.length_append, List.length_cons]
      omega
    obtain ⟨K, hK⟩ : ∃ K, (joinC ((x :: b).map byT) ++ 62 :: 62 :: q).length = K + 1 := ⟨_, (Nat.succ_pred_eq_of_pos (by omega)).symm⟩
    rw [hK, List.map_cons, joinC_com, List.append_assoc, bin_one, byT_skB 62 x _ (by decide), if_neg (by simp), if_neg (by simp), if_pos rfl, e1, e2, h1, if_pos rfl, h2, List.nil_append]
    exact bin_back b [x] K q (fun y hy => hb y (by simp [hy])) (by omega) (by simp)
end Go.Proofs.YtjacoodfhkaioabGreatDoor
namespace Go.Proofs.YtjacoodfhkaioabGreatDoor
open Go.ChangeShapes Go.WideShapes Go.ChangeAt Go.RowKit Go.Shelf
set_option linter.unusedSimpArgs false
set_option linter.unusedVariables false
set_option maxRecDepth 2000

/-- within a sign no byte begins one -/
theorem vd_inner {l : List UInt8} (hne : l ≠ []) (h : Lib.validD l = true) : 1 ≤ (Lib.decodeL l).2 ∧ ∀ k b, 0 < k → k < (Lib.decodeL l).2 → l[k]? = some b → stB b.toNat = false := by
  have hw := Lib.decodeL_width l
  have hl : 0 < l.length := List.length_pos_iff.2 hne
  rw [Lib.validD_step _ hne] at h
  refine ⟨by omega, fun k b hk hkw hb => ?_⟩
  have hd := Lib.decodeL_N l
  have hg : ∀ j x, l[j]? = some x → l.getD j 0 = x := fun j x hx => by simp [List.getD, hx]
  rcases Lib.decodeN_shape l.length (l.getD 0 0).toNat (l.getD 1 0).toNat (l.getD 2 0).toNat (l.getD 3 0).toNat with ⟨c, e⟩ | ⟨c1, c2, c3, cv, e⟩ | ⟨c1, c2, c3, c4, cv, cs, e⟩ | ⟨c1, c2, c3, c4, c5, cv, cw, e⟩ | e
  · rw [hd, e] at hkw; simp at hkw; omega
  · rw [hd, e] at hkw
    simp only at hkw
    have : k = 1 := by omega
    subst this
    rw [hg 1 b hb] at c3
    simp [stB, c3]
  · rw [hd, e] at hkw
    simp only at hkw
    rcases (by omega : k = 1 ∨ k = 2) with rfl | rfl
    · rw [hg 1 b hb] at c3; simp [stB, c3]
    · rw [hg 2 b hb] at c4; simp [stB, c4]
  · rw [hd, e] at hkw
    simp only at hkw
    rcases (by omega : k = 1 ∨ k = 2 ∨ k = 3) with rfl | rfl | rfl
    · rw [hg 1 b hb] at c3; simp [stB, c3]
    · rw [hg 2 b hb] at c4; simp [stB, c4]
    · rw [hg 3 b hb] at c5; simp [stB, c5]
  · rw [hd, e] at h; simp at h
/-- cut at a sign's beginning, what is valid stays so -/
theorem vd_take : ∀ (n : Nat) (l : List UInt8) (k : Nat), l.length ≤ n → Lib.validD l = true → (∀ b, l[k]? = some b → stB b.toNat = true) → Lib.validD (l.take k) = true
  | 0, l, k, hl, h, _ => by
    have : l = [] := List.eq_nil_of_length_eq_zero (by omega)
    subst this; simpa using h
  | n + 1, l, k, hl, h, hk => by
    by_cases hne : l = []
    · subst hne; simpa using h
    · by_cases hk0 : k = 0
      · subst hk0; rfl
      · obtain ⟨w1, w3⟩ := vd_inner hne h
        by_cases hkl : l.length ≤ k
        · rw [List.take_of_length_le hkl]; exact h
        · by_cases hkw : k < (Lib.decodeL l).2
          · obtain ⟨b, hb⟩ : ∃ b, l[k]? = some b := ⟨l[k]'(by omega), by simp⟩
            have h1 := w3 k b (by omega) hkw hb
            rw [hk b hb] at h1; cases h1
          · have hv := h
            rw [Lib.validD_step _ hne] at hv
            split at hv
            · cases hv
            · have ih := vd_take n (l.drop (Lib.decodeL l).2) (k - (Lib.decodeL l).2) (by rw [List.length_drop]; omega) hv (fun b hb => by
                rw [List.getElem?_drop] at hb
                exact hk b (by rw [← hb]; congr 1; omega))
              have e : l.take k = l.take (Lib.decodeL l).2 ++ (l.drop (Lib.decodeL l).2).take (k - (Lib.decodeL l).2) := by
                rw [← List.take_add]; congr 1; omega
              have e2 : Lib.validD (l.take (Lib.decodeL l).2 ++ []) = true := by
                rename_i hbad
                have h3 := Lib.encode_decode l hne hbad
                have h4 : e1 (Lib.decodeL l).1 = l.take (Lib.decodeL l).2 := h3
                rw [← h4, valid_e1 _ (okR_decode l hne)]
                rfl
              rw [List.append_nil] at e2
              rw [e, vd_app e2]
              exact ih
theorem near_ge {r : List UInt8} {m : Nat} (hm : ∀ b, r[m]? = some b → stB b.toNat = true) : ∀ K, m ≤ K → m ≤ nearGo r K
  | 0, h => by simp [nearGo]; omega
  | K + 1, h => by
    by_cases hmk : m = K + 1
    · subst hmk
      unfold nearGo
      cases hr : r[K + 1]? with
      | none => exact Nat.le_refl _
      | some b => simp only; rw [if_pos (hm b hr)]; exact Nat.le_refl _
    · have ih := near_ge hm K (by omega)
      unfold nearGo
      cases r[K + 1]? with
      | none => simp only; omega
      | some b =>
        simp only
        split
        · omega
        · exact ih
theorem near_st (r : List UInt8) (h0 : ∀ b, r[0]? = some b → stB b.toNat = true) : ∀ K, ∀ b, r[nearGo r K]? = some b → stB b.toNat = true
  | 0, b, hb => by simp only [nearGo] at hb; exact h0 b hb
  | K + 1, b, hb => by
    unfold nearGo at hb
    cases hr : r[K + 1]? with
    | none => rw [hr] at hb; simp only at hb; rw [hr] at hb; cases hb
    | some c =>
      rw [hr] at hb
      simp only at hb
      split at hb
      · rename_i hc
        rw [hr] at hb
        cases hb; exact hc
      · exact near_st r h0 K b hb
/-- what near hands on: the name as it is written, and something valid behind it -/
theorem near_split {x q : List UInt8} (hx : Lib.validD x = true) (hq : Lib.validD q = true) (hl : x.length ≤ 1277) : ∃ q', (x ++ q).take (nearN (x ++ q)) = x ++ q' ∧ q' <+: q ∧ Lib.validD q' = true := by
  have hv : Lib.validD (x ++ q) = true := by rw [vd_app hx]; exact hq
  have hst : ∀ {l : List UInt8}, Lib.validD l = true → ∀ b, l[0]? = some b → stB b.toNat = true := fun {l} h b hb => by
    cases l with
    | nil => simp at hb
    | cons c t => simp only [List.getElem?_cons_zero, Option.some.injEq] at hb; subst hb; exact vd_head h
  unfold nearN
  split
  · exact ⟨q, by rw [List.take_length], List.prefix_refl _, hq⟩
  · have h1 : x.length ≤ nearGo (x ++ q) 1277 := near_ge (fun b hb => by
      rw [List.getElem?_append_right (Nat.le_refl _), Nat.sub_self] at hb
      exact hst hq b hb) 1277 hl
    have h2 := near_st (x ++ q) (hst hv) 1277
    have h3 := vd_take _ (x ++ q) (nearGo (x ++ q) 1277) (Nat.le_refl _) hv h2
    refine ⟨q.take (nearGo (x ++ q) 1277 - x.length), ?_, List.take_prefix _ _, ?_⟩
    · rw [List.take_append, List.take_of_length_le h1]
    · rw [List.take_append, List.take_of_length_le h1, vd_app hx] at h3
      exact h3
theorem sg_app {a b : List UInt8} (h : Lib.validD a = true) : sg (a ++ b) = sg a ++ sg b := by
  obtain ⟨rs, h1, rfl⟩ := (valid_iff a).1 h
  rw [sg_en rs h1, sg_en0 rs h1]
theorem escR_bytes (r : Nat) : (en (escR r)).length ≤ 5 := by
  unfold escR
  by_cases h1 : r = 39 ∨ r = 92
  · rw [if_pos h1, en_ascii _ (by intro x hx; simp at hx; omega)]
    simp
  · rw [if_neg h1]
    by_cases h2 : r = 10
    · rw [if_pos h2, en_ascii _ (by intro x hx; simp at hx; omega)]
      simp
    · rw [if_neg h2]
      by_cases h3 : hiddenB r = true
      · rw [if_pos h3, en_ascii _ (by
          intro x hx
          simp only [List.mem_cons, List.mem_append, List.not_mem_nil, or_false] at hx
          rcases hx with rfl | rfl | hx | rfl
          · omega
          · omega
          · exact hex2_ascii r (hidden_lt h3) x hx
          · omega)]
        have := (hex2_len r).2
        simp only [List.length_map, List.length_cons, List.length_append, List.length_nil]
        omega
      · rw [if_neg h3, en_one]
        have := (e1_length r).2
        omega
theorem escs_bytes : ∀ rs : List Nat, (en (escs rs)).length ≤ 5 * rs.length
  | [] => by simp [escs, en]
  | r :: t => by
    have h1 := escR_bytes r
    have h2 := escs_bytes t
    rw [escs, en_append, List.length_append, List.length_cons]
    omega
theorem bare_lt {r : Nat} {f : Bool} (h : bareB r f = true) : r < 128 := (bare_seen r f h).2.2
theorem plain_sg : ∀ (f : Bool) (l : List UInt8) (rs : List Nat), l = en rs → plainGo f rs = true → l.length = rs.length ∧ (∀ x ∈ rs, x < 128)
  | _, l, [], e, _ => by subst e; simp [en]
  | f, l, r :: t, e, h => by
    simp only [plainGo, Bool.and_eq_true] at h
    obtain ⟨ih1, ih2⟩ := plain_sg false (en t) t rfl h.2
    have hr := bare_lt h.1
    have e2 : en (r :: t) = e1 r ++ en t := by rw [← en_one r, ← en_append]; rfl
    subst e
    rw [e2, e1_ascii r hr, List.length_append, ih1]
    refine ⟨by simp; omega, fun x hx => ?_⟩
    rcases List.mem_cons.1 hx with rfl | hx
    · exact hr
    · exact ih2 x hx
/-- how long a name is as it is written -/
theorem quote_le3 {nm : List UInt8} (hc : (sg nm).length ≤ 255) : (quoteL nm).length ≤ 1277 := by
  unfold quoteL
  split
  · rename_i hv
    split
    · rename_i hp
      unfold plainB at hp
      rw [Bool.and_eq_true] at hp
      have := (plain_sg true nm (sg nm) (en_of_valid hv).symm hp.1).1
      omega
    · unfold quoteR
      have e : en (39 :: (escs (sg nm) ++ [39])) = e1 39 ++ (en (escs (sg nm)) ++ e1 39) := by
        have h1 : (39 :: (escs (sg nm) ++ [39]) : List Nat) = [39] ++ (escs (sg nm) ++ [39]) := rfl
        rw [h1, en_append, en_append, en_one]
      rw [e, e1_39]
      have := escs_bytes (sg nm)
      simp only [List.length_append, List.length_cons, List.length_nil]
      omega
  · simp
theorem bareLen_app : ∀ (f : Bool) (rs ts : List Nat), plainGo f rs = true → (∀ r t, ts = r :: t → bareB r false = false) → rs ≠ [] → bareLen f (rs ++ ts) = rs.length
  | f, [], ts, _, _, h => absurd rfl h
  | f, [r], ts, h, ht, _ => by
    simp only [plainGo, Bool.and_eq_true] at h
    rw [List.cons_append, List.nil_append, bareLen, if_pos h.1]
    cases ts with
    | nil => rfl
    | cons x t => rw [bareLen, ht x t rfl]; rfl
  | f, r :: r2 :: rs, ts, h, ht, _ => by
    have h' := h
    rw [plainGo, Bool.and_eq_true] at h
    rw [List.cons_append, bareLen, if_pos h.1, bareLen_app false (r2 :: rs) ts h.2 ht (by simp)]
    simp; omega
theorem fol_sg {q : List UInt8} (hf : Fol q) : ∀ r t, sg q = r :: t → bareB r false = false := fun r t e => by
  cases q with
  | nil => simp [sg_nil] at e
  | cons b l =>
    rw [sg_step _ (by simp)] at e
    injection e with e _
    by_cases hb : b.toNat < 128
    · rw [Lib.decodeL_ascii b l hb] at e
      subst e
      exact hf b l rfl
    · have h1 := dec_hi b l hb
      rw [e] at h1
      cases hbb : bareB r false with
      | false => rfl
      | true => have := bare_lt hbb; omega
theorem fol_pre {q q' : List UInt8} (hf : Fol q) (h : q' <+: q) : Fol q' := fun b t e => by
  subst e
  obtain ⟨s, hs⟩ := h
  exact hf b (t ++ s) (by rw [← hs]; rfl)
/-- a name that was written is read -/
theorem unq_back {nm q : List UInt8} (hv : Lib.validD nm = true) (hc : (sg nm).length ≤ 255) (hq : Lib.validD q = true) (hf : Fol q) : unqQ (quoteL nm ++ q) = (0, nm, (quoteL nm).length) := by
  have hvq : Lib.validD (quoteL nm ++ q) = true := by rw [vd_app (vd_quote nm)]; exact hq
  unfold unqQ
  rw [if_pos hvq]
  by_cases hp : plainB nm = true
  · have hQ : quoteL nm = nm := by unfold quoteL; rw [if_pos hv, if_pos hp]
    rw [hQ] at hvq ⊢
    unfold plainB at hp
    rw [Bool.and_eq_true] at hp
    have hne : nm ≠ [] := of_decide_eq_true hp.2
    have hsn : sg nm ≠ [] := fun e => hne (by have := en_of_valid hv; rw [e] at this; exact this.symm)
    obtain ⟨hl, _⟩ := plain_sg true nm (sg nm) (en_of_valid hv).symm hp.1
    have hpre : Lib.hasPrefix (nm ++ q) [39] = false := by
      cases hh : Lib.hasPrefix (nm ++ q) [39] with
      | false => rfl
      | true =>
        obtain ⟨t, ht⟩ := hasP_39 hh
        cases nm with
        | nil => exact absurd rfl hne
        | cons b l =>
          injection ht with hb _
          subst hb
          have h1 := sg_step ((39 : UInt8) :: l) (by simp)
          rw [Lib.decodeL_ascii 39 l (by decide)] at h1
          rw [h1] at hp
          simp [plainGo, bareB] at hp
    rw [hpre]
    simp only [Bool.false_eq_true, if_false]
    have hbl : bareLen true (sg (nm ++ q)) = nm.length := by
      rw [sg_app hv, bareLen_app true (sg nm) (sg q) hp.1 (fol_sg hf) hsn, hl]
    unfold bareQ
    rw [hbl, if_neg (by omega), if_neg (by have := List.length_pos_iff.2 hne; omega), List.take_left]
  · have hQ : quoteL nm = en (quoteR (sg nm)) := by unfold quoteL; rw [if_pos hv, if_neg hp]
    have hQ2 : quoteL nm = 39 :: (en (escs (sg nm)) ++ [39]) := by
      rw [hQ]
      unfold quoteR
      have h1 : (39 :: (escs (sg nm) ++ [39]) : List Nat) = [39] ++ (escs (sg nm) ++ [39]) := rfl
      rw [h1, en_append, en_append, en_one, e1_39]
      rfl
    have hpre : Lib.hasPrefix (quoteL nm ++ q) [39] = true := by rw [hQ2]; rfl
    rw [hpre, if_pos rfl]
    have hok := okRs_escs _ (okRs_sg nm)
    have hsg : sg ((quoteL nm ++ q).drop 1) = escs (sg nm) ++ 39 :: sg q := by
      rw [hQ2]
      show sg ((en (escs (sg nm)) ++ [39]) ++ q) = _
      have h39 : ([39] : List UInt8) = en [39] := by rw [en_one, e1_39]
      rw [h39, ← en_append, sg_en _ (okRs_append hok (okRs_one (okR_ascii (by omega)))), List.append_assoc]
      rfl
    unfold quotQ
    rw [hsg, runQ_back 255 (sg nm) [] 0 0 (sg q) (by simpa using hc)]
    simp only [if_pos, List.nil_append]
    rw [en_of_valid hv, en_of_valid hq, List.length_append]
    simp
theorem bs_bytes (s : ByteArray) : bs s.data.toList = s := bytes_eq' s
theorem name_back {nm : ByteArray} {q : List UInt8} (hv : Lib.validD nm.data.toList = true) (hc : (sg nm.data.toList).length ≤ 255) (hq : Lib.validD q = true) (hf : Fol q) : nameL (quoteL nm.data.toList ++ q) = (some (atomT nm), q) := by
  obtain ⟨q', h1, h2, h3⟩ := near_split (vd_quote nm.data.toList) hq (quote_le3 hc)
  have h4 := unq_back hv hc h3 (fol_pre hf h2)
  unfold nameL
  rw [h1, h4]
  simp only [if_pos]
  rw [List.take_left, List.drop_left, if_pos rfl, bs_bytes]
end Go.Proofs.YtjacoodfhkaioabGreatDoor
namespace Go.Proofs.YtjacoodfhkaioabGreatDoor
open Go.ChangeShapes Go.WideShapes Go.ChangeAt Go.RowKit Go.Shelf
set_option linter.unusedSimpArgs false
set_option linter.unusedVariables false
set_option maxRecDepth 2000

/-- bytes are bytes -/
def okB : Tm → Prop
  | .mk _ _ _ _ _ _ b => ∀ x ∈ b, x < 256
/-- all parts may be -/
def Mg (T : Tm) : Prop := ∀ p ∈ parts T, fairB p = true ∧ p.ok1 ∧ okB p
theorem Mg.self {T : Tm} (h : Mg T) : fairB T = true ∧ T.ok1 ∧ okB T := h T (by rw [parts_eq]; simp)
theorem mg_list {l : List Tm} {T : Tm} (h : Mg T) (hk : T.kids = l) : ∀ t ∈ l, Mg t := fun t ht p hp => h p (by
  rw [parts_eq, hk]
  refine List.mem_cons_of_mem _ ?_
  clear hk h
  induction l with
  | nil => simp at ht
  | cons u l ih =>
    simp only [partsL, List.mem_append]
    rcases List.mem_cons.1 ht with rfl | ht
    · exact .inl hp
    · exact .inr (ih ht))
/-- the shape of a term that may be -/
inductive Shp : Tm → Prop where
  | int (Z : Int) (h : (glim 4294967296 Z.natAbs).length ≤ 64) : Shp (intT Z)
  | atom (nm : ByteArray) (h1 : Lib.validD nm.data.toList = true) (h2 : (sg nm.data.toList).length ≤ 255) : Shp (atomT nm)
  | ref (n : Int) (h0 : 0 ≤ n) (h1 : n ≤ 1073741824) : Shp (numT 2 n)
  | pid (n : Int) (h0 : 0 ≤ n) (h1 : n ≤ 1073741824) : Shp (numT 3 n)
  | tup (l : List Tm) (h : l.length ≤ 255) : Shp (tupT l)
  | nil : Shp nilT
  | cons (a b : Tm) : Shp (consT a b)
  | bin (b : List Nat) (h1 : b.length ≤ 4096) (h2 : ∀ x ∈ b, x < 256) : Shp (binT b)
theorem shp_of {T : Tm} (h : fairB T = true) (ho : T.ok1) (hB : okB T) : Shp T := by
  have hp := prT_lean (fair_lean h)
  unfold fairB at h
  rw [Bool.and_eq_true] at h
  obtain ⟨_, hw⟩ := h
  cases T with | mk k neg d nm n l b =>
  unfold withinB at hw
  dsimp only at hw
  unfold prT at hp
  dsimp only at hp
  by_cases k0 : k = 0
  · subst k0
    rw [if_pos rfl] at hp hw
    rw [Bool.and_eq_true] at hw
    obtain ⟨hw1, hw2⟩ := hw
    simp only [Tm.mk.injEq, true_and] at hp
    obtain ⟨rfl, rfl, rfl, rfl⟩ := hp
    unfold normB at hw2
    rw [Bool.and_eq_true] at hw2
    obtain ⟨hn1, hn2⟩ := hw2
    have hlm : Lm 4294967296 d := ho.2.2.2.2
    have hna : (sv neg (gval 4294967296 d)).natAbs = gval 4294967296 d := by unfold sv; split <;> simp
    have hlen : (glim 4294967296 (gval 4294967296 d)).length = d.length := by
      rw [hna] at hn2
      have := beq_iff_eq.1 hn2
      omega
    have hd : glim 4294967296 (gval 4294967296 d) = d := by
      obtain ⟨k, hk, he⟩ := glim_is_take hlm
      rw [he] at hlen
      rw [List.length_take] at hlen
      rw [he, List.take_of_length_le (by omega)]
    have hneg : decide (sv neg (gval 4294967296 d) < 0) = neg := beq_iff_eq.1 hn1
    have hT : (Tm.mk 0 neg d noS 0 [] []) = intT (sv neg (gval 4294967296 d)) := by
      unfold intT
      rw [hneg, hna, hd]
    rw [hT]
    refine Shp.int _ ?_
    rw [hna, hd]
    have := of_decide_eq_true hw1
    omega
  rw [if_neg k0] at hp hw
  by_cases k1 : k = 1
  · subst k1
    rw [if_pos rfl] at hp hw
    simp only [Tm.mk.injEq, true_and] at hp
    obtain ⟨rfl, rfl, rfl, rfl, rfl⟩ := hp
    rw [Bool.and_eq_true] at hw
    have h1 := of_decide_eq_true hw.1
    have h2 := of_decide_eq_true hw.2
    unfold countZ at h1 h2
    by_cases hv : Lib.validD nm.data.toList = true
    · rw [if_pos hv] at h1 h2
      exact Shp.atom nm hv (by omega)
    · rw [if_neg hv] at h1; omega
  rw [if_neg k1] at hp hw
  by_cases k2 : k = 2
  · subst k2
    rw [if_pos rfl] at hp
    rw [if_pos (.inl rfl)] at hw
    simp only [Tm.mk.injEq, true_and] at hp
    obtain ⟨rfl, rfl, rfl, rfl, rfl⟩ := hp
    rw [Bool.and_eq_true] at hw
    exact Shp.ref n (of_decide_eq_true hw.1) (of_decide_eq_true hw.2)
  rw [if_neg k2] at hp
  by_cases k3 : k = 3
  · subst k3
    rw [if_pos rfl] at hp
    rw [if_pos (.inr rfl)] at hw
    simp only [Tm.mk.injEq, true_and] at hp
    obtain ⟨rfl, rfl, rfl, rfl, rfl⟩ := hp
    rw [Bool.and_eq_true] at hw
    exact Shp.pid n (of_decide_eq_true hw.1) (of_decide_eq_true hw.2)
  rw [if_neg k3] at hp
  rw [if_neg (fun e => e.elim k2 k3)] at hw
  by_cases k4 : k = 4
  · subst k4
    rw [if_pos rfl] at hp hw
    simp only [Tm.mk.injEq, true_and] at hp
    obtain ⟨rfl, rfl, rfl, rfl, rfl⟩ := hp
    have := of_decide_eq_true hw
    exact Shp.tup l (by omega)
  rw [if_neg k4] at hp hw
  by_cases k6 : k = 6
  · subst k6
    rw [if_pos rfl] at hp hw
    simp only [Tm.mk.injEq, true_and] at hp
    obtain ⟨rfl, rfl, rfl, rfl, rfl⟩ := hp
    have hl : (l.length : Int) = 2 := beq_iff_eq.1 hw
    match l, hl with
    | [a, b], _ => exact Shp.cons a b
    | [], hl => simp at hl
    | [a], hl => simp at hl
    | a :: b :: c :: l, hl => simp at hl; omega
  rw [if_neg k6] at hp hw
  by_cases k7 : k = 7
  · subst k7
    rw [if_pos rfl] at hp hw
    simp only [Tm.mk.injEq, true_and] at hp
    obtain ⟨rfl, rfl, rfl, rfl, hl, _⟩ := hp
    subst hl
    have := of_decide_eq_true hw
    exact Shp.bin b (by omega) hB
  rw [if_neg k7] at hp
  simp only [Tm.mk.injEq] at hp
  obtain ⟨rfl, rfl, rfl, rfl, rfl, rfl, rfl⟩ := hp
  exact Shp.nil
theorem tx_int (Z : Int) : tx (intT Z) = txt Z := by
  unfold intT
  rw [tx_leaf (by decide) (by decide)]
  unfold leafX
  rw [if_pos rfl, sv_int]
theorem tx_atom (nm : ByteArray) : tx (atomT nm) = quoteL nm.data.toList := by
  unfold atomT
  rw [tx_leaf (by decide) (by decide)]
  rfl
theorem tx_ref (n : Int) : tx (numT 2 n) = 35 :: Lib.itoa n := by
  unfold numT
  rw [tx_leaf (by decide) (by decide)]
  rfl
theorem tx_pid (n : Int) : tx (numT 3 n) = 60 :: (Lib.itoa n ++ [62]) := by
  unfold numT
  rw [tx_leaf (by decide) (by decide)]
  rfl
theorem tx_bin (b : List Nat) : tx (binT b) = [60, 60] ++ (joinC (b.map byT) ++ [62, 62]) := by
  unfold binT
  rw [tx_leaf (by decide) (by decide)]
  rfl
theorem tx_nil : tx nilT = [91, 93] := by
  unfold nilT
  rw [tx_leaf (by decide) (by decide)]
  rfl
theorem quote_hd {nm : List UInt8} (hv : Lib.validD nm = true) : ∃ b t, quoteL nm = b :: t ∧ (b = 39 ∨ (97 ≤ b.toNat ∧ b.toNat ≤ 122)) := by
  unfold quoteL
  rw [if_pos hv]
  by_cases hp : plainB nm = true
  · rw [if_pos hp]
    unfold plainB at hp
    rw [Bool.and_eq_true] at hp
    have hne : nm ≠ [] := of_decide_eq_true hp.2
    cases nm with
    | nil => exact absurd rfl hne
    | cons b l =>
      refine ⟨b, l, rfl, .inr ?_⟩
      have h1 := sg_step (b :: l) (by simp)
      rw [h1] at hp
      simp only [plainGo, Bool.and_eq_true] at hp
      have hb := bare_lt hp.1.1
      by_cases hb2 : b.toNat < 128
      · rw [Lib.decodeL_ascii b l hb2] at hp
        have := hp.1.1
        simp [bareB] at this
        exact this
      · have := dec_hi b l hb2; omega
  · rw [if_neg hp]
    refine ⟨39, en (escs (sg nm) ++ [39]), ?_, .inl rfl⟩
    unfold quoteR
    have h1 : (39 :: (escs (sg nm) ++ [39]) : List Nat) = [39] ++ (escs (sg nm) ++ [39]) := rfl
    rw [h1, en_append, en_one, e1_39]
    rfl
/-- leaves, read at once -/
theorem begin_int {Z : Int} {q : List UInt8} (h : (glim 4294967296 Z.natAbs).length ≤ 64) (hf : Fol q) : beginL (txt Z ++ q) = (.lf (some (intT Z)), q) := by
  by_cases h0 : 0 ≤ Z
  · obtain ⟨b, t, hb⟩ : ∃ b t, txt Z = b :: t := by
      cases e : txt Z with
      | nil => exact absurd e (txt_ne h0)
      | cons b t => exact ⟨b, t, rfl⟩
    have hd : digB b = true := txt_dig h0 b (by rw [hb]; simp)
    have hne : ∀ c : UInt8, digB c = false → skB c (txt Z ++ q) = false := fun c hc => by
      rw [hb, List.cons_append]
      exact (skB_no _ (fun e => by rw [e, hc] at hd; cases hd)).1
    have hdg : digH (txt Z ++ q) = true := by rw [hb]; exact hd
    unfold beginL
    rw [hne 91 (by decide), hne 123 (by decide), hne 60 (by decide), hne 35 (by decide), hne 45 (by decide), hdg, int_back h hf h0]
    rfl
  · obtain ⟨d, hd, _, hdd⟩ := txt_neg (n := Z) (by omega)
    rw [hd, List.cons_append]
    unfold beginL
    rw [(skB_no (c := 91) (d ++ q) (by decide)).1, (skB_no (c := 123) (d ++ q) (by decide)).1, (skB_no (c := 60) (d ++ q) (by decide)).1, (skB_no (c := 35) (d ++ q) (by decide)).1, (skB_self 45 (d ++ q)).1, (skB_self 45 (d ++ q)).2, int_back2 h hf hd hdd]
    rfl
theorem begin_atom {nm : ByteArray} {q : List UInt8} (hv : Lib.validD nm.data.toList = true) (hc : (sg nm.data.toList).length ≤ 255) (hq : Lib.validD q = true) (hf : Fol q) : beginL (quoteL nm.data.toList ++ q) = (.lf (some (atomT nm)), q) := by
  obtain ⟨b, t, hb, hbb⟩ := quote_hd hv
  have hne : ∀ c : UInt8, c ≠ 39 → ¬ (97 ≤ c.toNat ∧ c.toNat ≤ 122) → skB c (quoteL nm.data.toList ++ q) = false := fun c h1 h2 => by
    rw [hb, List.cons_append]
    exact (skB_no _ (fun e => by subst e; exact hbb.elim h1 h2)).1
  have hdg : digH (quoteL nm.data.toList ++ q) = false := by
    rw [hb]
    show digB b = false
    cases hd : digB b with
    | false => rfl
    | true =>
      simp only [digB, Bool.and_eq_true, decide_eq_true_eq] at hd
      rcases hbb with rfl | hbb
      · revert hd; decide
      · omega
  unfold beginL
  rw [hne 91 (by decide) (by decide), hne 123 (by decide) (by decide), hne 60 (by decide) (by decide), hne 35 (by decide) (by decide), hne 45 (by decide) (by decide), hdg, name_back hv hc hq hf]
  rfl
theorem begin_ref {n : Int} {q : List UInt8} (h0 : 0 ≤ n) (h1 : n ≤ 1073741824) (hf : Fol q) : beginL (35 :: Lib.itoa n ++ q) = (.lf (some (numT 2 n)), q) := by
  rw [List.cons_append]
  unfold beginL
  rw [(skB_no (c := 91) _ (by decide)).1, (skB_no (c := 123) _ (by decide)).1, (skB_no (c := 60) _ (by decide)).1, (skB_self 35 _).1, (skB_self 35 _).2, ref_back h0 h1 hf]
  rfl
theorem begin_pid {n : Int} {q : List UInt8} (h0 : 0 ≤ n) (h1 : n ≤ 1073741824) : beginL (60 :: (Lib.itoa n ++ [62]) ++ q) = (.lf (some (numT 3 n)), q) := by
  have hs : skB 60 (Lib.itoa n ++ 62 :: q) = false := by
    rw [itoa_txt h0]
    cases e : txt n with
    | nil => exact absurd e (txt_ne h0)
    | cons b t =>
      have hd : digB b = true := txt_dig h0 b (by rw [e]; simp)
      rw [List.cons_append]
      exact (skB_no _ (fun e2 => by rw [e2] at hd; revert hd; decide)).1
  rw [List.cons_append, List.append_assoc, List.singleton_append]
  unfold beginL
  rw [(skB_no (c := 91) _ (by decide)).1, (skB_no (c := 123) _ (by decide)).1, (skB_self 60 _).1, (skB_self 60 _).2, hs, pid_back h0 h1]
  rfl
theorem begin_bin {b : List Nat} (q : List UInt8) (hb : ∀ x ∈ b, x < 256) : beginL ([60, 60] ++ (joinC (b.map byT) ++ [62, 62]) ++ q) = (.lf (some (binT b)), q) := by
  have e : [60, 60] ++ (joinC (b.map byT) ++ [62, 62]) ++ q = 60 :: 60 :: (joinC (b.map byT) ++ 62 :: 62 :: q) := by simp
  rw [e]
  unfold beginL
  rw [(skB_no (c := 91) _ (by decide)).1, (skB_no (c := 123) _ (by decide)).1, (skB_self 60 _).1, (skB_self 60 _).2, (skB_self 60 _).1, (skB_self 60 _).2, bin_read q hb]
  rfl
theorem begin_nil (q : List UInt8) : beginL ([91, 93] ++ q) = (.lf (some nilT), q) := by
  show beginL (91 :: 93 :: q) = _
  unfold beginL opL
  rw [(skB_self 91 _).1, (skB_self 91 _).2, (skB_self 93 _).1, (skB_self 93 _).2]
  rfl
theorem begin_tup0 (q : List UInt8) : beginL (123 :: 125 :: q) = (.lf (some (tupT [])), q) := by
  unfold beginL opL
  rw [(skB_no (c := 91) _ (by decide)).1, (skB_self 123 _).1, (skB_self 123 _).2, (skB_self 125 _).1, (skB_self 125 _).2]
  rfl
theorem begin_tup {r : List UInt8} (h : skB 125 r = false) : beginL (123 :: r) = (.rw 125, r) := by
  unfold beginL opL
  rw [(skB_no (c := 91) _ (by decide)).1, (skB_self 123 _).1, (skB_self 123 _).2, h]
  rfl
theorem begin_list {r : List UInt8} (h : skB 93 r = false) : beginL (91 :: r) = (.rw 93, r) := by
  unfold beginL opL
  rw [(skB_self 91 _).1, (skB_self 91 _).2, h]
  rfl
end Go.Proofs.YtjacoodfhkaioabGreatDoor
