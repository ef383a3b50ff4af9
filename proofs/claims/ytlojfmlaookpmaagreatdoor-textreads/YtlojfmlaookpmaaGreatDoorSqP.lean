/- Texts of mine, one behind the other: TextRdB, TextRdH, TextRf1, BigTM, TextBk1, TextBk3, TextRf3, TextRf4. -/
import Derived.Test.YtlojfmlaookpmaaGreatDoorSqM
import Derived.Test.YtlojfmlaookpmaaGreatDoorSqO
import Derived.Test.YtlojfmlaookpmaaGreatDoorSqH
import Derived.Test.YtlojfmlaookpmaaGreatDoorSqL
import Derived.Test.YtlojfmlaookpmaaGreatDoorSqK
import Derived.Test.YtlojfmlaookpmaaGreatDoorSqI
set_option linter.unusedSimpArgs false
set_option linter.unusedVariables false
set_option maxRecDepth 2000
namespace Go.Proofs.YtlojfmlaookpmaaGreatDoor
open Go.ChangeShapes Go.WideShapes Go.ChangeAt Go.RowKit Go.Shelf
structure Op where
 c : UInt8
 its : List Tm
 bar : Bool
inductive Hd where
 | no
 | tm (T : Tm)
 | rw (o : Op)
def consL : List Tm → Tm → Tm
 | [], t => t
 | x :: l, t => consT x (consL l t)
def wholeL (o : Op) : Option Tm :=
 if o.c = 125 then some (tupT o.its)
 else if o.bar then
   match o.its.getLast? with
   | none => none
   | some t => if t.kind = 5 ∨ t.kind = 6 then none else some (consL o.its.dropLast t)
 else some (consL o.its nilT)
def hdO : Option Tm → Hd
 | none => .no
 | some T => .tm T
def Op.add (o : Op) (T : Tm) : Op := ⟨o.c, o.its ++ [T], o.bar⟩
def putL (o : Op) (T : Tm) (r : List UInt8) : Hd × List UInt8 :=
 if skB o.c r then (hdO (wholeL (o.add T)), skR o.c r)
 else if o.bar then (.no, r)
 else if skB 44 r then (.rw (o.add T), skR 44 r)
 else if o.c = 93 ∧ skB 124 r = true then (.rw ⟨o.c, o.its ++ [T], true⟩, skR 124 r)
 else (.no, r)
def bgH : Bg → Hd
 | .lf o => hdO o
 | .rw c => .rw ⟨c, [], false⟩
def runL : Nat → List UInt8 → List Op → Hd → Option Tm × List UInt8
 | 0, r, _, _ => (none, r)
 | _ + 1, r, _, .no => (none, r)
 | n + 1, r, st, .rw o => runL n (beginL r).2 (o :: st) (bgH (beginL r).1)
 | _ + 1, r, [], .tm T => (some T, r)
 | n + 1, r, o :: st, .tm T => runL n (putL o T r).2 st (putL o T r).1
def readL (r : List UInt8) : Option Tm × List UInt8 := runL (r.length + 2) (beginL r).2 [] (bgH (beginL r).1)
def wtO (o : Op) : Nat := 1 + o.its.length
def wtS : List Op → Nat
 | [] => 0
 | o :: st => wtO o + wtS st
def wtH : Hd → Nat
 | .no => 0
 | .tm _ => 1
 | .rw o => wtO o
def okOp (o : Op) : Prop := (o.c = 93 ∨ o.c = 125) ∧ (o.bar = true → o.its ≠ [] ∧ o.c = 93)
def okH : Hd → Prop
 | .no => True
 | .tm _ => True
 | .rw o => okOp o
theorem skB_len {c : UInt8} {r : List UInt8} (h : skB c r = true) : (skR c r).length + 1 = r.length := by
 unfold skB at h
 unfold skR
 cases r with
 | nil => simp at h
 | cons b t => simp at h; simp [h]
theorem drop_le (r : List UInt8) : (r.dropWhile digB).length ≤ r.length := (List.dropWhile_suffix digB).length_le
theorem pidL_le (r : List UInt8) : (pidL r).2.length ≤ r.length := by
 unfold pidL
 split
 · exact Nat.le_trans (skR_le _ _) (drop_le r)
 · exact drop_le r
theorem refL_le (r : List UInt8) : (refL r).2.length ≤ r.length := drop_le r
theorem intL_le (m r : List UInt8) : (intL m r).2.length ≤ r.length := drop_le r
theorem intL_shr (r : List UInt8) (h : digH r = true) : (intL [] r).2.length + 1 ≤ r.length := by
 cases r with
 | nil => simp [digH] at h
 | cons b t =>
   unfold digH at h
   have h2 : digB b = true := h
   show ((b :: t).dropWhile digB).length + 1 ≤ _
   rw [List.dropWhile_cons_of_pos h2, List.length_cons]
   have := drop_le t
   omega
theorem vd_app {a b : List UInt8} (h : Lib.validD a = true) : Lib.validD (a ++ b) = Lib.validD b := by
 obtain ⟨rs, h1, rfl⟩ := (valid_iff a).1 h
 exact valid_en rs h1 b
theorem vd_asc (c : UInt8) (hc : c.toNat < 128) (t : List UInt8) : Lib.validD (c :: t) = Lib.validD t := by
 have h := valid_e1 c.toNat (okR_ascii hc) t
 rw [e1_ascii _ hc] at h
 simpa using h
theorem vd_skR {c : UInt8} {r : List UInt8} (hc : c.toNat < 128) (h : Lib.validD r = true) : Lib.validD (skR c r) = true := by
 unfold skR
 split
 · rename_i hh
   cases r with
   | nil => simp at hh
   | cons b t =>
     simp only [List.head?_cons, Option.some.injEq] at hh
     subst hh
     rw [vd_asc _ hc] at h
     exact h
 · exact h
theorem vd_drop {r : List UInt8} (h : Lib.validD r = true) : Lib.validD (r.dropWhile digB) = true := by
 induction r with
 | nil => exact h
 | cons b t ih =>
   by_cases hb : digB b = true
   · rw [List.dropWhile_cons_of_pos hb]
     have hb2 : b.toNat < 128 := by simp [digB] at hb; omega
     rw [vd_asc _ hb2] at h
     exact ih h
   · rw [List.dropWhile_cons_of_neg hb]; exact h
theorem vd_quote (x : List UInt8) : Lib.validD (quoteL x) = true := by
 unfold quoteL
 split
 · split
   · assumption
   · exact valid_en0 _ (okRs_quoteR _ (okRs_sg _))
 · rfl
theorem vd_name {r : List UInt8} (h : Lib.validD r = true) : Lib.validD (nameL r).2 = true := by
 unfold nameL
 split
 · split
   · rename_i h2
     have h3 := List.take_append_drop (unqQ (r.take (nearN r))).2.2 r
     rw [← h3, vd_app (by rw [h2]; exact vd_quote _)] at h
     exact h
   · exact h
 · exact h
theorem vd_bin : ∀ (k : Nat) (r : List UInt8) (acc : List Nat), Lib.validD r = true → Lib.validD (binGo k r acc).2 = true
 | 0, r, _, h => h
 | k + 1, r, acc, h => by
   have h2 : Lib.validD (if acc = [] then r else skR 44 r) = true := by
     split
     · exact h
     · exact vd_skR (by decide) h
   obtain ⟨q, hq⟩ : ∃ q, (if acc = [] then r else skR 44 r) = q := ⟨_, rfl⟩
   rw [hq] at h2
   rw [bin_one, hq]
   split
   · split
     · exact vd_skR (by decide) (vd_skR (by decide) h)
     · exact vd_skR (by decide) (vd_skR (by decide) h)
   · split
     · exact h
     · split
       · exact vd_bin k _ _ (vd_drop h2)
       · exact vd_drop h2
theorem vd_head {b : UInt8} {t : List UInt8} (h : Lib.validD (b :: t) = true) : stB b.toNat = true := by
 rw [Lib.validD_step _ (by simp), Lib.decodeL_N] at h
 simp only [List.getD_cons_zero] at h
 have hb := b.toNat_lt
 rcases Lib.decodeN_shape (b :: t).length b.toNat ((b :: t).getD 1 0).toNat ((b :: t).getD 2 0).toNat ((b :: t).getD 3 0).toNat with ⟨c, e⟩ | ⟨c1, _⟩ | ⟨c1, _⟩ | ⟨c1, _⟩ | e
 · simp [stB]; omega
 · simp [stB]; omega
 · simp [stB]; omega
 · simp [stB]; omega
 · rw [e] at h
   simp at h
theorem opL_vd {c : UInt8} {T : Tm} {r : List UInt8} (hc : c.toNat < 128) (h : Lib.validD r = true) : Lib.validD (opL c T r).2 = true := by
 unfold opL
 split
 · exact vd_skR hc h
 · exact h
theorem pidL_vd {r : List UInt8} (h : Lib.validD r = true) : Lib.validD (pidL r).2 = true := by
 unfold pidL
 split
 · exact vd_skR (by decide) (vd_drop h)
 · exact vd_drop h
theorem beginL_vd {r : List UInt8} (h : Lib.validD r = true) : Lib.validD (beginL r).2 = true := by
 unfold beginL
 have q := fun (c : UInt8) (hc : c.toNat < 128) => vd_skR hc h
 split
 · exact opL_vd (by decide) (q 91 (by decide))
 · split
   · exact opL_vd (by decide) (q 123 (by decide))
   · split
     · split
       · exact vd_bin _ _ _ (vd_skR (by decide) (q 60 (by decide)))
       · exact pidL_vd (q 60 (by decide))
     · split
       · exact vd_drop (q 35 (by decide))
       · split
         · exact vd_drop (q 45 (by decide))
         · split
           · exact vd_drop h
           · exact vd_name h
theorem runQ_rest (L : Nat) : ∀ (t : List Nat) (part : Nat) (out : List Nat) (num dig : Nat), (runQ L part out num dig t).1 = 0 → ∃ p, t = p ++ (runQ L part out num dig t).2.2
 | [], _, _, _, _, h => by simp [runQ] at h
 | r :: t, part, out, num, dig, h => by
   unfold runQ at h ⊢
   split at h
   · rename_i hc
     rw [if_pos hc]
     exact ⟨[r], rfl⟩
   · rename_i hc
     rw [if_neg hc]
     split at h
     · rename_i hc2
       rw [if_pos hc2]
       obtain ⟨p, hp⟩ := runQ_rest L t _ _ _ _ h
       exact ⟨r :: p, by rw [List.cons_append, ← hp]⟩
     · rename_i hc2
       exact absurd h hc2
theorem hasP_39 {l : List UInt8} (h : Lib.hasPrefix l [39] = true) : ∃ t, l = 39 :: t := by
 cases l with
 | nil => simp [Lib.hasPrefix] at h
 | cons b t =>
   simp [Lib.hasPrefix] at h
   exact ⟨t, by rw [h]⟩
theorem unq_pos (l : List UInt8) (h : (unqQ l).1 = 0) : 1 ≤ (unqQ l).2.2 := by
 unfold unqQ at h ⊢
 by_cases hv : Lib.validD l = true
 · rw [if_pos hv] at h ⊢
   by_cases hp : Lib.hasPrefix l [39] = true
   · rw [if_pos hp] at h ⊢
     obtain ⟨t, rfl⟩ := hasP_39 hp
     rw [vd_asc _ (by decide)] at hv
     unfold quotQ at h ⊢
     by_cases hq : (runQ 255 0 [] 0 0 (sg ((39 :: t).drop 1))).1 = 0
     · rw [if_pos hq] at h ⊢
       obtain ⟨p, hp⟩ := runQ_rest 255 _ _ _ _ _ hq
       have h2 := congrArg (fun x => (en x).length) hp
       simp only [List.drop_succ_cons, List.drop_zero] at h2 ⊢
       rw [en_of_valid hv, en_append, List.length_append] at h2
       simp only [List.length_cons]
       omega
     · rw [if_neg hq] at h
       exact absurd h hq
   · rw [if_neg hp] at h ⊢
     unfold bareQ at h ⊢
     split at h
     · simp at h
     · split at h
       · simp at h
       · rename_i h1 h2
         rw [if_neg h1, if_neg h2]
         show 1 ≤ bareLen true (sg l)
         omega
 · rw [if_neg hv] at h
   simp at h
theorem nameL_le (r : List UInt8) : (nameL r).2.length ≤ r.length := by
 unfold nameL
 split
 · split
   · rw [List.length_drop]; omega
   · exact Nat.le_refl _
 · exact Nat.le_refl _
theorem nameL_shr (r : List UInt8) (h : (nameL r).1.isSome = true) : (nameL r).2.length + 1 ≤ r.length := by
 unfold nameL at h ⊢
 split at h
 · rename_i h0
   split at h
   · rename_i h1
     rw [if_pos h0, if_pos h1]
     have h2 := unq_pos _ h0
     have h3 := (unq_sizes (r.take (nearN r)) (by have := nearN_le r; omega)).2
     have h4 : (r.take (nearN r)).length ≤ r.length := by rw [List.length_take]; omega
     rw [List.length_drop]
     omega
   · simp at h
 · simp at h
theorem binGo_le : ∀ (k : Nat) (r : List UInt8) (acc : List Nat), (binGo k r acc).2.length ≤ r.length
 | 0, r, _ => Nat.le_refl _
 | k + 1, r, acc => by
   have h2 : (if acc = [] then r else skR 44 r).length ≤ r.length := by
     split
     · exact Nat.le_refl _
     · exact skR_le _ _
   obtain ⟨q, hq⟩ : ∃ q, (if acc = [] then r else skR 44 r) = q := ⟨_, rfl⟩
   rw [hq] at h2
   rw [bin_one, hq]
   split
   · split
     · exact Nat.le_trans (skR_le _ _) (skR_le _ _)
     · exact Nat.le_trans (skR_le _ _) (skR_le _ _)
   · split
     · exact Nat.le_refl _
     · split
       · exact Nat.le_trans (binGo_le k _ _) (Nat.le_trans (drop_le _) h2)
       · exact Nat.le_trans (drop_le _) h2
theorem opL_le (c : UInt8) (T : Tm) (r : List UInt8) : (opL c T r).2.length ≤ r.length := by
 unfold opL
 split
 · exact skR_le _ _
 · exact Nat.le_refl _
theorem beginL_le (r : List UInt8) : (beginL r).2.length ≤ r.length := by
 unfold beginL
 split
 · exact Nat.le_trans (opL_le _ _ _) (skR_le _ _)
 · split
   · exact Nat.le_trans (opL_le _ _ _) (skR_le _ _)
   · split
     · split
       · exact Nat.le_trans (binGo_le ((skR 60 (skR 60 r)).length + 1) (skR 60 (skR 60 r)) []) (Nat.le_trans (skR_le _ _) (skR_le _ _))
       · exact Nat.le_trans (pidL_le _) (skR_le _ _)
     · split
       · exact Nat.le_trans (refL_le _) (skR_le _ _)
       · split
         · exact Nat.le_trans (intL_le [45] (skR 45 r)) (skR_le _ _)
         · split
           · exact intL_le [] r
           · exact nameL_le r
theorem beginL_shr (r : List UInt8) (h : bgH (beginL r).1 ≠ .no) : (beginL r).2.length + 1 ≤ r.length := by
 unfold beginL at h ⊢
 split
 · rename_i h1
   have := skB_len h1
   have := opL_le 93 nilT (skR 91 r)
   omega
 · split
   · rename_i h1
     have := skB_len h1
     have := opL_le 125 (tupT []) (skR 123 r)
     omega
   · split
     · rename_i h1
       have h2 := skB_len h1
       split
       · have := binGo_le ((skR 60 (skR 60 r)).length + 1) (skR 60 (skR 60 r)) []
         have := skR_le 60 (skR 60 r)
         show (binGo _ _ _).2.length + 1 ≤ _
         omega
       · have := pidL_le (skR 60 r)
         show (pidL _).2.length + 1 ≤ _
         omega
     · split
       · rename_i h1
         have h2 := skB_len h1
         have := refL_le (skR 35 r)
         show (refL (skR 35 r)).2.length + 1 ≤ r.length
         omega
       · split
         · rename_i h1
           have h2 := skB_len h1
           have := intL_le [45] (skR 45 r)
           show (intL [45] (skR 45 r)).2.length + 1 ≤ r.length
           omega
         · split
           · rename_i h1
             show (intL [] r).2.length + 1 ≤ r.length
             exact intL_shr r h1
           · rename_i h1 h2 h3 h4 h5 h6
             rw [if_neg h1, if_neg h2, if_neg h3, if_neg h4, if_neg h5, if_neg h6] at h
             refine nameL_shr r ?_
             simp only [lfL, bgH] at h
             cases hn : (nameL r).1 with
             | none => rw [hn] at h; exact absurd rfl h
             | some x => rfl
theorem opL_ok (c : UInt8) (T : Tm) (r : List UInt8) (hc : c = 93 ∨ c = 125) : okH (bgH (opL c T r).1) ∧ wtH (bgH (opL c T r).1) = 1 := by
 unfold opL
 split
 · exact ⟨trivial, rfl⟩
 · exact ⟨⟨hc, fun e => by simp at e⟩, rfl⟩
theorem lfL_ok (p : Option Tm × List UInt8) : okH (bgH (lfL p).1) ∧ wtH (bgH (lfL p).1) ≤ 1 := by
 obtain ⟨o, r⟩ := p
 cases o with
 | none => exact ⟨trivial, by simp [lfL, bgH, hdO, wtH]⟩
 | some T => exact ⟨trivial, Nat.le_refl _⟩
theorem beginL_ok (r : List UInt8) : okH (bgH (beginL r).1) ∧ wtH (bgH (beginL r).1) ≤ 1 := by
 unfold beginL
 split
 · exact ⟨(opL_ok _ _ _ (.inl rfl)).1, Nat.le_of_eq (opL_ok _ _ _ (.inl rfl)).2⟩
 · split
   · exact ⟨(opL_ok _ _ _ (.inr rfl)).1, Nat.le_of_eq (opL_ok _ _ _ (.inr rfl)).2⟩
   · split
     · split
       · exact lfL_ok _
       · exact lfL_ok _
     · split
       · exact lfL_ok _
       · split
         · exact lfL_ok _
         · split
           · exact lfL_ok _
           · exact lfL_ok _
theorem okO_lt {o : Op} (h : okOp o) : o.c.toNat < 128 := by
 rcases h.1 with e | e <;> rw [e] <;> decide
theorem putL_vd {o : Op} {T : Tm} {r : List UInt8} (ho : okOp o) (h : Lib.validD r = true) : Lib.validD (putL o T r).2 = true := by
 unfold putL
 split
 · exact vd_skR (okO_lt ho) h
 · split
   · exact h
   · split
     · exact vd_skR (by decide) h
     · split
       · exact vd_skR (by decide) h
       · exact h
theorem putL_shr (o : Op) (T : Tm) (r : List UInt8) : (putL o T r).2.length ≤ r.length ∧ ((putL o T r).1 ≠ .no → (putL o T r).2.length + 1 ≤ r.length) := by
 unfold putL
 split
 · rename_i h
   have := skB_len h
   exact ⟨by simp only []; omega, fun _ => by simp only []; omega⟩
 · split
   · exact ⟨Nat.le_refl _, fun e => absurd rfl e⟩
   · split
     · rename_i h
       have := skB_len h
       exact ⟨by simp only []; omega, fun _ => by simp only []; omega⟩
     · split
       · rename_i h
         have := skB_len h.2
         exact ⟨by simp only []; omega, fun _ => by simp only []; omega⟩
       · exact ⟨Nat.le_refl _, fun e => absurd rfl e⟩
theorem putL_ok {o : Op} {T : Tm} {r : List UInt8} (ho : okOp o) : okH (putL o T r).1 ∧ wtH (putL o T r).1 ≤ wtO o + 1 := by
 unfold putL
 split
 · cases wholeL (o.add T) with
   | none => exact ⟨trivial, by simp [hdO, wtH]⟩
   | some x => exact ⟨trivial, by simp [hdO, wtH, wtO]⟩
 · split
   · exact ⟨trivial, by simp [wtH]⟩
   · rename_i hb
     split
     · refine ⟨⟨ho.1, fun e => absurd e hb⟩, ?_⟩
       simp [wtH, wtO, Op.add]; omega
     · split
       · rename_i h
         exact ⟨⟨ho.1, fun _ => ⟨by simp, h.1⟩⟩, by simp [wtH, wtO]; omega⟩
       · exact ⟨trivial, by simp [wtH]⟩
def hdF : Hd → List UInt8 → Nat
 | .no, _ => 1
 | _, r => r.length + 2
theorem hdF_begin {r : List UInt8} {n : Nat} (h : r.length + 1 ≤ n) : hdF (bgH (beginL r).1) (beginL r).2 ≤ n := by
 cases hb : bgH (beginL r).1 with
 | no => simp [hdF]; omega
 | tm T =>
   have := beginL_shr r (by rw [hb]; simp)
   simp [hdF]; omega
 | rw o =>
   have := beginL_shr r (by rw [hb]; simp)
   simp [hdF]; omega
theorem hdF_put {o : Op} {T : Tm} {r : List UInt8} {n : Nat} (h : r.length + 1 ≤ n) : hdF (putL o T r).1 (putL o T r).2 ≤ n := by
 cases hb : (putL o T r).1 with
 | no => simp [hdF]; omega
 | tm T' =>
   have := (putL_shr o T r).2 (by rw [hb]; simp)
   simp [hdF]; omega
 | rw o' =>
   have := (putL_shr o T r).2 (by rw [hb]; simp)
   simp [hdF]; omega
theorem runL_fuel : ∀ (n m : Nat) (r : List UInt8) (st : List Op) (hd : Hd), hdF hd r ≤ n → hdF hd r ≤ m → runL n r st hd = runL m r st hd
 | 0, _, r, _, hd, h, _ => by cases hd <;> simp [hdF] at h
 | _ + 1, 0, r, _, hd, _, h => by cases hd <;> simp [hdF] at h
 | n + 1, m + 1, r, st, .no, _, _ => rfl
 | n + 1, m + 1, r, st, .rw o, h, h' => by
   simp only [hdF] at h h'
   show runL n _ _ _ = runL m _ _ _
   exact runL_fuel n m _ _ _ (hdF_begin (by omega)) (hdF_begin (by omega))
 | n + 1, m + 1, r, [], .tm T, _, _ => rfl
 | n + 1, m + 1, r, o :: st, .tm T, h, h' => by
   simp only [hdF] at h h'
   show runL n _ _ _ = runL m _ _ _
   exact runL_fuel n m _ _ _ (hdF_put (by omega)) (hdF_put (by omega))
def goL (r : List UInt8) (st : List Op) (hd : Hd) : Option Tm × List UInt8 := runL (r.length + 2) r st hd
theorem hdF_le (hd : Hd) (r : List UInt8) : hdF hd r ≤ r.length + 2 := by cases hd <;> simp [hdF]
theorem goL_no (r : List UInt8) (st : List Op) : goL r st .no = (none, r) := rfl
theorem goL_rw (r : List UInt8) (st : List Op) (o : Op) : goL r st (.rw o) = goL (beginL r).2 (o :: st) (bgH (beginL r).1) := by
 show runL (r.length + 1) _ _ _ = runL _ _ _ _
 exact runL_fuel _ _ _ _ _ (hdF_begin (Nat.le_refl _)) (hdF_le _ _)
theorem goL_end (r : List UInt8) (T : Tm) : goL r [] (.tm T) = (some T, r) := rfl
theorem goL_tm (r : List UInt8) (o : Op) (st : List Op) (T : Tm) : goL r (o :: st) (.tm T) = goL (putL o T r).2 st (putL o T r).1 := by
 show runL (r.length + 1) _ _ _ = runL _ _ _ _
 exact runL_fuel _ _ _ _ _ (hdF_put (Nat.le_refl _)) (hdF_le _ _)
theorem readL_go (r : List UInt8) : readL r = goL (beginL r).2 [] (bgH (beginL r).1) := runL_fuel _ _ _ _ _ (Nat.le_trans (hdF_begin (n := r.length + 1) (Nat.le_refl _)) (by omega)) (hdF_le _ _)
mutual
theorem dep_le : ∀ T : Tm, dep T ≤ (parts T).length
 | .mk k neg d nm n l b => by
   have := depL_le l
   unfold dep parts
   split <;> simp <;> omega
theorem depL_le : ∀ l : List Tm, depL l ≤ (partsL l).length
 | [] => by simp [depL]
 | t :: l => by
   have := dep_le t
   have := depL_le l
   simp only [depL, partsL, List.length_append]
   omega
end
def Gd (T : Tm) : Prop := ∀ p ∈ parts T, p.ok1
theorem gd_one {T : Tm} (h : parts T = [T]) (ho : T.ok1) : Gd T := fun p hp => by
 rw [h] at hp
 simp at hp
 subst hp; exact ho
theorem gd_int {l : List UInt8} (h : pE l = 0) : Gd (intT (pZ l)) := by
 refine gd_one (parts_int _) (ok_int ?_)
 have hz : pZ l = sv (pneg l) (pval (pdig l)) := by unfold pZ; rw [if_pos h]
 have hn : (pZ l).natAbs = pval (pdig l) := by rw [hz]; unfold sv; split <;> simp
 rw [hn]
 unfold pE at h
 split at h
 · split at h
   · simp at h
   · omega
 · simp at h
theorem gd_num (k n : Int) : Gd (numT k n) := gd_one (by simp [numT, parts, partsL]) ⟨by simp, by decide, by simp, by simp, Lm.nil _⟩
theorem gd_nil : Gd nilT := gd_one parts_nil ⟨by simp, by decide, by simp, by simp, Lm.nil _⟩
theorem gd_bin {b : List Nat} (h : b.length ≤ 1000000) : Gd (binT b) := gd_one (parts_bin b) ⟨by simp, by decide, by simp, h, Lm.nil _⟩
theorem gd_atom {nm : ByteArray} (h : nm.size ≤ 1000000) : Gd (atomT nm) := gd_one (parts_atom nm) ⟨by simp, h, by simp, by simp, Lm.nil _⟩
theorem gd_mem {l : List Tm} (h : ∀ t ∈ l, Gd t) : ∀ p ∈ partsL l, p.ok1 := fun p hp => by
 induction l with
 | nil => simp [partsL] at hp
 | cons t l ih =>
   simp only [partsL, List.mem_append] at hp
   rcases hp with hp | hp
   · exact h t (by simp) p hp
   · exact ih (fun t' ht' => h t' (by simp [ht'])) hp
theorem gd_tup {l : List Tm} (hl : l.length ≤ 1000000) (h : ∀ t ∈ l, Gd t) : Gd (tupT l) := fun p hp => by
 rw [parts_tup] at hp
 rcases List.mem_cons.1 hp with rfl | hp
 · exact ⟨by simp, by decide, hl, by simp, Lm.nil _⟩
 · exact gd_mem h p hp
theorem gd_cons {a b : Tm} (ha : Gd a) (hb : Gd b) : Gd (consT a b) := fun p hp => by
 rw [parts_cons] at hp
 rcases List.mem_cons.1 hp with rfl | hp
 · exact ok_cons a b
 · rcases List.mem_append.1 hp with hp | hp
   · exact ha p hp
   · exact hb p hp
theorem gd_consL : ∀ {l : List Tm} {t : Tm}, (∀ x ∈ l, Gd x) → Gd t → Gd (consL l t)
 | [], _, _, ht => ht
 | x :: l, t, h, ht => gd_cons (h x (by simp)) (gd_consL (fun y hy => h y (by simp [hy])) ht)
theorem parts_consL : ∀ (l : List Tm) (t : Tm), (parts (consL l t)).length = l.length + (partsL l).length + (parts t).length
 | [], t => by simp [consL, partsL]
 | x :: l, t => by
   have := parts_consL l t
   show (parts (consT x (consL l t))).length = _
   rw [parts_cons]
   simp only [List.length_cons, List.length_append, partsL, this]
   omega
theorem partsL_app : ∀ a b : List Tm, (partsL (a ++ b)).length = (partsL a).length + (partsL b).length
 | [], b => by simp [partsL]
 | x :: a, b => by
   have := partsL_app a b
   simp only [List.cons_append, partsL, List.length_append, this]
   omega
theorem partsL_one (t : Tm) : (partsL [t]).length = (parts t).length := by simp [partsL]
def ptO (o : Op) : Nat := 2 + (partsL o.its).length + o.its.length
def ptS : List Op → Nat
 | [] => 0
 | o :: st => ptO o + ptS st
def ptH : Hd → Nat
 | .no => 0
 | .tm T => (parts T).length + 1
 | .rw o => ptO o
def gdH : Hd → Prop
 | .no => True
 | .tm T => Gd T
 | .rw o => ∀ t ∈ o.its, Gd t
theorem nmB_len (m : Int) (r : List UInt8) (acc : List Nat) (k : Nat) : (binGo k r acc).1 = none ∨ ∃ b, (binGo k r acc).1 = some (binT b) ∧ b.length ≤ acc.length + r.length := by
 induction k generalizing r acc with
 | zero => exact .inl rfl
 | succ k ih =>
   obtain ⟨q, hq⟩ : ∃ q, (if acc = [] then r else skR 44 r) = q := ⟨_, rfl⟩
   have hql : q.length ≤ r.length := by
     rw [← hq]; split
     · exact Nat.le_refl _
     · exact skR_le _ _
   rw [bin_one, hq]
   split
   · split
     · exact .inr ⟨acc, rfl, by omega⟩
     · exact .inl rfl
   · split
     · exact .inl rfl
     · split
       · rename_i hn
         have h1 := nm_pos hn
         rcases ih (q.dropWhile digB) (acc ++ [(nmN 255 (q.takeWhile digB)).toNat]) with h | ⟨b, hb, hl⟩
         · exact .inl h
         · refine .inr ⟨b, hb, ?_⟩
           rw [List.length_append] at hl
           simp only [List.length_cons, List.length_nil] at hl
           omega
       · exact .inl rfl
def LfOk (o : Option Tm) : Prop := ∀ T, o = some T → Gd T ∧ (parts T).length = 1
theorem lf_pid (r : List UInt8) : LfOk (pidL r).1 := by
 intro T h
 unfold pidL at h
 split at h
 · simp only [] at h
   split at h
   · cases h; exact ⟨gd_num _ _, by simp [numT, parts, partsL]⟩
   · cases h
 · cases h
theorem lf_ref (r : List UInt8) : LfOk (refL r).1 := by
 intro T h
 unfold refL at h
 simp only [] at h
 split at h
 · cases h; exact ⟨gd_num _ _, by simp [numT, parts, partsL]⟩
 · cases h
theorem lf_int (m r : List UInt8) : LfOk (intL m r).1 := by
 intro T h
 unfold intL at h
 simp only [] at h
 split at h
 · rename_i h0
   cases h; exact ⟨gd_int h0, by rw [parts_int]; rfl⟩
 · cases h
theorem lf_bin (r : List UInt8) (hr : r.length ≤ 1000000) : LfOk (binL r).1 := by
 intro T h
 unfold binL at h
 rcases nmB_len 0 r [] (r.length + 1) with h1 | ⟨b, hb, hl⟩
 · rw [h1] at h; cases h
 · rw [hb] at h
   cases h
   exact ⟨gd_bin (by simp at hl; omega), by rw [parts_bin]; rfl⟩
theorem lf_name (r : List UInt8) : LfOk (nameL r).1 := by
 intro T h
 unfold nameL at h
 split at h
 · split at h
   · simp only [Option.some.injEq] at h
     subst h
     refine ⟨gd_atom ?_, by rw [parts_atom]; rfl⟩
     rw [bs_size]
     have := (unq_sizes (r.take (nearN r)) (by have := nearN_le r; omega)).1
     omega
   · cases h
 · cases h
theorem beginL_gd (r : List UInt8) (hr : r.length ≤ 1000000) : gdH (bgH (beginL r).1) ∧ ptH (bgH (beginL r).1) ≤ 2 := by
 have lf : ∀ p : Option Tm × List UInt8, LfOk p.1 → gdH (bgH (lfL p).1) ∧ ptH (bgH (lfL p).1) ≤ 2 := by
   rintro ⟨o, q⟩ ho
   cases o with
   | none => exact ⟨trivial, by simp [lfL, bgH, hdO, ptH]⟩
   | some T =>
     have h := ho T rfl
     exact ⟨h.1, by show (parts T).length + 1 ≤ 2; omega⟩
 have op : ∀ (c : UInt8) (T : Tm) (q : List UInt8), Gd T → (parts T).length = 1 → gdH (bgH (opL c T q).1) ∧ ptH (bgH (opL c T q).1) ≤ 2 := by
   intro c T q hg hp
   unfold opL
   split
   · exact ⟨hg, by show (parts T).length + 1 ≤ 2; omega⟩
   · exact ⟨fun t ht => by simp at ht, by show 2 + (partsL []).length + 0 ≤ 2; simp [partsL]⟩
 unfold beginL
 split
 · exact op _ _ _ gd_nil (by rw [parts_nil]; rfl)
 · split
   · exact op _ _ _ (gd_tup (by simp) (fun t ht => by simp at ht)) (by rw [parts_tup]; simp [partsL])
   · split
     · split
       · exact lf _ (lf_bin _ (Nat.le_trans (Nat.le_trans (skR_le _ _) (skR_le _ _)) hr))
       · exact lf _ (lf_pid _)
     · split
       · exact lf _ (lf_ref _)
       · split
         · exact lf _ (lf_int _ _)
         · split
           · exact lf _ (lf_int _ _)
           · exact lf _ (lf_name _)
theorem whole_gd {o : Op} {t : Tm} (h : wholeL o = some t) (hg : ∀ x ∈ o.its, Gd x) (hl : o.its.length ≤ 1000000) : Gd t ∧ (parts t).length + 1 ≤ ptO o := by
 unfold wholeL at h
 split at h
 · cases h
   exact ⟨gd_tup hl hg, by rw [parts_tup]; simp only [List.length_cons, ptO]; omega⟩
 · split at h
   · split at h
     · cases h
     · rename_i e he
       have hin : o.its ≠ [] := fun e2 => by rw [e2] at he; simp at he
       have hd : o.its = o.its.dropLast ++ [e] := by
         have h1 := List.dropLast_concat_getLast hin
         have h2 : o.its.getLast hin = e := by rw [List.getLast?_eq_some_getLast hin] at he; exact Option.some.inj he
         rw [h2] at h1; exact h1.symm
       split at h
       · cases h
       · cases h
         refine ⟨gd_consL (fun x hx => hg x (List.dropLast_subset _ hx)) (hg e (by rw [hd]; simp)), ?_⟩
         rw [parts_consL]
         unfold ptO
         have h3 := partsL_app o.its.dropLast [e]
         rw [← hd, partsL_one] at h3
         have h4 := congrArg List.length hd
         rw [List.length_append] at h4
         simp only [List.length_cons, List.length_nil] at h4
         omega
   · cases h
     refine ⟨gd_consL hg gd_nil, ?_⟩
     rw [parts_consL, parts_nil]
     unfold ptO
     simp only [List.length_cons, List.length_nil]
     omega
theorem putL_gd {o : Op} {T : Tm} {r : List UInt8} (hg : ∀ x ∈ o.its, Gd x) (hT : Gd T) (hl : o.its.length + 1 ≤ 1000000) : gdH (putL o T r).1 ∧ ptH (putL o T r).1 ≤ ptO o + (parts T).length + 1 := by
 have hga : ∀ x ∈ o.its ++ [T], Gd x := fun x hx => (List.mem_append.1 hx).elim (hg x) (fun h => by simp at h; subst h; exact hT)
 have hpa : ptO (o.add T) = ptO o + (parts T).length + 1 := by
   unfold ptO Op.add
   rw [partsL_app, partsL_one, List.length_append]
   simp only [List.length_cons, List.length_nil]
   omega
 unfold putL
 split
 · cases hw : wholeL (o.add T) with
   | none => exact ⟨trivial, by simp [hdO, ptH]⟩
   | some t =>
     have := whole_gd hw hga (by simp [Op.add]; omega)
     exact ⟨this.1, by show (parts t).length + 1 ≤ _; omega⟩
 · split
   · exact ⟨trivial, by simp [ptH]⟩
   · split
     · exact ⟨hga, by show ptO (o.add T) ≤ _; omega⟩
     · split
       · exact ⟨hga, by show ptO (o.add T) ≤ _; omega⟩
       · exact ⟨trivial, by simp [ptH]⟩
theorem run_gd : ∀ (n : Nat) (r : List UInt8) (st : List Op) (hd : Hd), r.length ≤ 1000000 → gdH hd → (∀ o ∈ st, ∀ x ∈ o.its, Gd x) → ptS st + ptH hd + 2 * r.length ≤ 900000 → ∀ T, (runL n r st hd).1 = some T → Gd T ∧ (parts T).length ≤ 900000
 | 0, _, _, _, _, _, _, _, T, h => by simp [runL] at h
 | n + 1, r, st, .no, _, _, _, _, T, h => by simp [runL] at h
 | n + 1, r, st, .rw o, hr, hg, hs, hp, T, h => by
   have h1 := beginL_gd r hr
   have h2 := beginL_le r
   refine run_gd n (beginL r).2 (o :: st) (bgH (beginL r).1) (by omega) h1.1 (fun o' ho' => (List.mem_cons.1 ho').elim (fun e => e ▸ hg) (hs o')) ?_ T h
   have hp2 : ptS st + ptO o + 2 * r.length ≤ 900000 := hp
   show ptO o + ptS st + ptH (bgH (beginL r).1) + 2 * (beginL r).2.length ≤ 900000
   by_cases hno : bgH (beginL r).1 = .no
   · rw [hno]; simp only [ptH]; omega
   · have := beginL_shr r hno; omega
 | n + 1, r, [], .tm T', hr, hg, hs, hp, T, h => by
   have e : T' = T := by simpa [runL] using h
   subst e
   have hp2 : 0 + ((parts T').length + 1) + 2 * r.length ≤ 900000 := hp
   exact ⟨hg, by omega⟩
 | n + 1, r, o :: st, .tm T', hr, hg, hs, hp, T, h => by
   have hp2 : ptO o + ptS st + ((parts T').length + 1) + 2 * r.length ≤ 900000 := hp
   have hol : o.its.length + 2 ≤ 900000 := by unfold ptO at hp2; omega
   have h1 := putL_gd (o := o) (T := T') (r := r) (hs o (by simp)) hg (by omega)
   have h2 := (putL_shr o T' r).1
   refine run_gd n (putL o T' r).2 st (putL o T' r).1 (by omega) h1.1 (fun o' ho' => hs o' (List.mem_cons_of_mem _ ho')) ?_ T h
   omega
theorem runL_le : ∀ (n : Nat) (r : List UInt8) (st : List Op) (hd : Hd), (runL n r st hd).2.length ≤ r.length
 | 0, _, _, _ => Nat.le_refl _
 | _ + 1, _, _, .no => Nat.le_refl _
 | n + 1, r, st, .rw o => Nat.le_trans (runL_le n _ _ _) (beginL_le r)
 | _ + 1, _, [], .tm _ => Nat.le_refl _
 | n + 1, r, o :: st, .tm T => Nat.le_trans (runL_le n _ _ _) (putL_shr o T r).1
theorem readL_le (r : List UInt8) : (readL r).2.length ≤ r.length := Nat.le_trans (runL_le _ _ _ _) (beginL_le r)
theorem readL_gd {r : List UInt8} (hr : r.length ≤ 400000) {T : Tm} (h : (readL r).1 = some T) : Gd T ∧ dep T ≤ 1000000 := by
 have h1 := beginL_gd r (by omega)
 have h2 := beginL_le r
 have h3 := run_gd (r.length + 2) (beginL r).2 [] (bgH (beginL r).1) (by omega) h1.1 (fun o ho => by simp at ho) (by
   simp only [ptS]
   omega) T h
 exact ⟨h3.1, Nat.le_trans (dep_le T) (by omega)⟩
mutual
def pT : Nat → List UInt8 → Option Tm × List UInt8
 | 0, r => (none, r)
 | f + 1, r => match (beginL r).1 with
   | .lf o => (o, (beginL r).2)
   | .rw c => pI f ⟨c, [], false⟩ (beginL r).2
def pI : Nat → Op → List UInt8 → Option Tm × List UInt8
 | 0, _, r => (none, r)
 | f + 1, o, r => match (pT f r).1 with
   | none => (none, (pT f r).2)
   | some T => match (putL o T (pT f r).2).1 with
     | .no => (none, (putL o T (pT f r).2).2)
     | .tm U => (some U, (putL o T (pT f r).2).2)
     | .rw o2 => pI f o2 (putL o T (pT f r).2).2
end
def onL (p : Option Tm × List UInt8) (st : List Op) : Option Tm × List UInt8 :=
 match p.1 with
 | none => (none, p.2)
 | some T => goL p.2 st (.tm T)
theorem p_le : ∀ f : Nat, (∀ r, (pT f r).2.length ≤ r.length) ∧ (∀ o r, (pI f o r).2.length ≤ r.length) := by
 intro f
 induction f with
 | zero => exact ⟨fun r => by unfold pT; exact Nat.le_refl _, fun o r => by unfold pI; exact Nat.le_refl _⟩
 | succ f ih =>
   refine ⟨fun r => ?_, fun o r => ?_⟩
   · unfold pT
     have h1 := beginL_le r
     split
     · exact h1
     · exact Nat.le_trans (ih.2 _ _) h1
   · unfold pI
     have h1 := ih.1 r
     split
     · exact h1
     · rename_i T _
       have h2 := (putL_shr o T (pT f r).2).1
       split
       · exact Nat.le_trans h2 h1
       · exact Nat.le_trans h2 h1
       · exact Nat.le_trans (ih.2 _ _) (Nat.le_trans h2 h1)
theorem go_p : ∀ f : Nat, (∀ r st, 2 * r.length + 1 ≤ f → goL (beginL r).2 st (bgH (beginL r).1) = onL (pT f r) st) ∧ (∀ o r st, 2 * r.length + 2 ≤ f → goL r st (.rw o) = onL (pI f o r) st) := by
 intro f
 induction f with
 | zero => exact ⟨fun r st h => by omega, fun o r st h => by omega⟩
 | succ f ih =>
   refine ⟨fun r st h => ?_, fun o r st h => ?_⟩
   · have hs := beginL_shr r
     unfold pT
     cases hb : (beginL r).1 with
     | lf o =>
       cases o with
       | none => simp only [bgH, hdO, goL_no, onL]
       | some T => simp only [bgH, hdO, onL]
     | rw c =>
       rw [hb] at hs
       have := hs (by simp [bgH])
       simp only [bgH]
       exact ih.2 _ _ _ (by omega)
   · rw [goL_rw, ih.1 r (o :: st) (by omega)]
     have hl := (p_le f).1 r
     unfold pI
     cases hp : (pT f r).1 with
     | none => simp only [onL, hp]
     | some T =>
       have hs := (putL_shr o T (pT f r).2).2
       have e1 : onL (pT f r) (o :: st) = goL (putL o T (pT f r).2).2 st (putL o T (pT f r).2).1 := by
         rw [← goL_tm]
         unfold onL
         rw [hp]
       rw [e1]
       cases hh : (putL o T (pT f r).2).1 with
       | no => simp only [goL_no, onL, hh]
       | tm U => simp only [onL, hh]
       | rw o2 =>
         rw [hh] at hs
         have := hs (by simp)
         simp only [hh]
         exact ih.2 o2 (putL o T (pT f r).2).2 st (by omega)
theorem read_p (r : List UInt8) {f : Nat} (h : 2 * r.length + 1 ≤ f) : readL r = pT f r := by
 rw [readL_go, (go_p f).1 r [] h]
 unfold onL
 cases hp : (pT f r).1 with
 | none => exact Prod.ext hp.symm rfl
 | some T =>
   show goL (pT f r).2 [] (.tm T) = pT f r
   rw [goL_end]; exact Prod.ext hp.symm rfl
def dg (ds : List Nat) : List UInt8 := ds.map fun x => UInt8.ofNat (48 + x)
def Fol (q : List UInt8) : Prop := ∀ b t, q = b :: t → bareB b.toNat false = false
theorem vd_inner {l : List UInt8} (hne : l ≠ []) (h : Lib.validD l = true) : 1 ≤ (Lib.decodeL l).2 ∧ ∀ k b, 0 < k → k < (Lib.decodeL l).2 → l[k]? = some b → stB b.toNat = false := by
 have hw := Lib.decodeL_width l
 have hl : 0 < l.length := List.length_pos_iff.2 hne
 rw [Lib.validD_step _ hne] at h
 refine ⟨by omega, fun k b hk hkw hb => ?_⟩
 have hd := Lib.decodeL_N l
 have hg : ∀ j x, l[j]? = some x → l.getD j 0 = x := fun j x hx => by simp [List.getD, hx]
 rcases Lib.decodeN_shape l.length (l.getD 0 0).toNat (l.getD 1 0).toNat (l.getD 2 0).toNat (l.getD 3 0).toNat with ⟨c, e⟩ | ⟨c1, c2, c3, cv, e⟩ | ⟨c1, c2, c3, c4, cv, cs, e⟩ | ⟨c1, c2, c3, c4, c5, cv, cw, e⟩ | e
 · rw [hd, e] at hkw; simp at hkw; omega
 · rw [hd, e] at hkw
   simp only at hkw
   have : k = 1 := by omega
   subst this
   rw [hg 1 b hb] at c3
   simp [stB, c3]
 · rw [hd, e] at hkw
   simp only at hkw
   rcases (by omega : k = 1 ∨ k = 2) with rfl | rfl
   · rw [hg 1 b hb] at c3; simp [stB, c3]
   · rw [hg 2 b hb] at c4; simp [stB, c4]
 · rw [hd, e] at hkw
   simp only at hkw
   rcases (by omega : k = 1 ∨ k = 2 ∨ k = 3) with rfl | rfl | rfl
   · rw [hg 1 b hb] at c3; simp [stB, c3]
   · rw [hg 2 b hb] at c4; simp [stB, c4]
   · rw [hg 3 b hb] at c5; simp [stB, c5]
 · rw [hd, e] at h; simp at h
theorem vd_take : ∀ (n : Nat) (l : List UInt8) (k : Nat), l.length ≤ n → Lib.validD l = true → (∀ b, l[k]? = some b → stB b.toNat = true) → Lib.validD (l.take k) = true
 | 0, l, k, hl, h, _ => by
   have : l = [] := List.eq_nil_of_length_eq_zero (by omega)
   subst this; simpa using h
 | n + 1, l, k, hl, h, hk => by
   by_cases hne : l = []
   · subst hne; simpa using h
   · by_cases hk0 : k = 0
     · subst hk0; rfl
     · obtain ⟨w1, w3⟩ := vd_inner hne h
       by_cases hkl : l.length ≤ k
       · rw [List.take_of_length_le hkl]; exact h
       · by_cases hkw : k < (Lib.decodeL l).2
         · obtain ⟨b, hb⟩ : ∃ b, l[k]? = some b := ⟨l[k]'(by omega), by simp⟩
           have h1 := w3 k b (by omega) hkw hb
           rw [hk b hb] at h1; cases h1
         · have hv := h
           rw [Lib.validD_step _ hne] at hv
           split at hv
           · cases hv
           · have ih := vd_take n (l.drop (Lib.decodeL l).2) (k - (Lib.decodeL l).2) (by rw [List.length_drop]; omega) hv (fun b hb => by
               rw [List.getElem?_drop] at hb
               exact hk b (by rw [← hb]; congr 1; omega))
             have e : l.take k = l.take (Lib.decodeL l).2 ++ (l.drop (Lib.decodeL l).2).take (k - (Lib.decodeL l).2) := by
               rw [← List.take_add]; congr 1; omega
             have e2 : Lib.validD (l.take (Lib.decodeL l).2 ++ []) = true := by
               rename_i hbad
               have h3 := Lib.encode_decode l hne hbad
               have h4 : e1 (Lib.decodeL l).1 = l.take (Lib.decodeL l).2 := h3
               rw [← h4, valid_e1 _ (okR_decode l hne)]
               rfl
             rw [List.append_nil] at e2
             rw [e, vd_app e2]
             exact ih
theorem near_ge {r : List UInt8} {m : Nat} (hm : ∀ b, r[m]? = some b → stB b.toNat = true) : ∀ K, m ≤ K → m ≤ nearGo r K
 | 0, h => by simp [nearGo]; omega
 | K + 1, h => by
   by_cases hmk : m = K + 1
   · subst hmk
     unfold nearGo
     cases hr : r[K + 1]? with
     | none => exact Nat.le_refl _
     | some b => simp only; rw [if_pos (hm b hr)]; exact Nat.le_refl _
   · have ih := near_ge hm K (by omega)
     unfold nearGo
     cases r[K + 1]? with
     | none => simp only; omega
     | some b =>
       simp only
       split
       · omega
       · exact ih
theorem near_st (r : List UInt8) (h0 : ∀ b, r[0]? = some b → stB b.toNat = true) : ∀ K, ∀ b, r[nearGo r K]? = some b → stB b.toNat = true
 | 0, b, hb => by simp only [nearGo] at hb; exact h0 b hb
 | K + 1, b, hb => by
   unfold nearGo at hb
   cases hr : r[K + 1]? with
   | none => rw [hr] at hb; simp only at hb; rw [hr] at hb; cases hb
   | some c =>
     rw [hr] at hb
     simp only at hb
     split at hb
     · rename_i hc
       rw [hr] at hb
       cases hb; exact hc
     · exact near_st r h0 K b hb
theorem near_split {x q : List UInt8} (hx : Lib.validD x = true) (hq : Lib.validD q = true) (hl : x.length ≤ 1277) : ∃ q', (x ++ q).take (nearN (x ++ q)) = x ++ q' ∧ q' <+: q ∧ Lib.validD q' = true := by
 have hv : Lib.validD (x ++ q) = true := by rw [vd_app hx]; exact hq
 have hst : ∀ {l : List UInt8}, Lib.validD l = true → ∀ b, l[0]? = some b → stB b.toNat = true := fun {l} h b hb => by
   cases l with
   | nil => simp at hb
   | cons c t => simp only [List.getElem?_cons_zero, Option.some.injEq] at hb; subst hb; exact vd_head h
 unfold nearN
 split
 · exact ⟨q, by rw [List.take_length], List.prefix_refl _, hq⟩
 · have h1 : x.length ≤ nearGo (x ++ q) 1277 := near_ge (fun b hb => by
     rw [List.getElem?_append_right (Nat.le_refl _), Nat.sub_self] at hb
     exact hst hq b hb) 1277 hl
   have h2 := near_st (x ++ q) (hst hv) 1277
   have h3 := vd_take _ (x ++ q) (nearGo (x ++ q) 1277) (Nat.le_refl _) hv h2
   refine ⟨q.take (nearGo (x ++ q) 1277 - x.length), ?_, List.take_prefix _ _, ?_⟩
   · rw [List.take_append, List.take_of_length_le h1]
   · rw [List.take_append, List.take_of_length_le h1, vd_app hx] at h3
     exact h3
theorem sg_app {a b : List UInt8} (h : Lib.validD a = true) : sg (a ++ b) = sg a ++ sg b := by
 obtain ⟨rs, h1, rfl⟩ := (valid_iff a).1 h
 rw [sg_en rs h1, sg_en0 rs h1]
theorem escR_bytes (r : Nat) : (en (escR r)).length ≤ 5 := by
 unfold escR
 by_cases h1 : r = 39 ∨ r = 92
 · rw [if_pos h1, en_ascii _ (by intro x hx; simp at hx; omega)]
   simp
 · rw [if_neg h1]
   by_cases h2 : r = 10
   · rw [if_pos h2, en_ascii _ (by intro x hx; simp at hx; omega)]
     simp
   · rw [if_neg h2]
     by_cases h3 : hiddenB r = true
     · rw [if_pos h3, en_ascii _ (by
         intro x hx
         simp only [List.mem_cons, List.mem_append, List.not_mem_nil, or_false] at hx
         rcases hx with rfl | rfl | hx | rfl
         · omega
         · omega
         · exact hex2_ascii r (hidden_lt h3) x hx
         · omega)]
       have := (hex2_len r).2
       simp only [List.length_map, List.length_cons, List.length_append, List.length_nil]
       omega
     · rw [if_neg h3, en_one]
       have := (e1_length r).2
       omega
theorem escs_bytes : ∀ rs : List Nat, (en (escs rs)).length ≤ 5 * rs.length
 | [] => by simp [escs, en]
 | r :: t => by
   have h1 := escR_bytes r
   have h2 := escs_bytes t
   rw [escs, en_append, List.length_append, List.length_cons]
   omega
theorem bare_lt {r : Nat} {f : Bool} (h : bareB r f = true) : r < 128 := (bare_seen r f h).2.2
theorem plain_sg : ∀ (f : Bool) (l : List UInt8) (rs : List Nat), l = en rs → plainGo f rs = true → l.length = rs.length ∧ (∀ x ∈ rs, x < 128)
 | _, l, [], e, _ => by subst e; simp [en]
 | f, l, r :: t, e, h => by
   simp only [plainGo, Bool.and_eq_true] at h
   obtain ⟨ih1, ih2⟩ := plain_sg false (en t) t rfl h.2
   have hr := bare_lt h.1
   have e2 : en (r :: t) = e1 r ++ en t := by rw [← en_one r, ← en_append]; rfl
   subst e
   rw [e2, e1_ascii r hr, List.length_append, ih1]
   refine ⟨by simp; omega, fun x hx => ?_⟩
   rcases List.mem_cons.1 hx with rfl | hx
   · exact hr
   · exact ih2 x hx
theorem quote_le3 {nm : List UInt8} (hc : (sg nm).length ≤ 255) : (quoteL nm).length ≤ 1277 := by
 unfold quoteL
 split
 · rename_i hv
   split
   · rename_i hp
     unfold plainB at hp
     rw [Bool.and_eq_true] at hp
     have := (plain_sg true nm (sg nm) (en_of_valid hv).symm hp.1).1
     omega
   · unfold quoteR
     have e : en (39 :: (escs (sg nm) ++ [39])) = e1 39 ++ (en (escs (sg nm)) ++ e1 39) := by
       have h1 : (39 :: (escs (sg nm) ++ [39]) : List Nat) = [39] ++ (escs (sg nm) ++ [39]) := rfl
       rw [h1, en_append, en_append, en_one]
     rw [e, e1_39]
     have := escs_bytes (sg nm)
     simp only [List.length_append, List.length_cons, List.length_nil]
     omega
 · simp
theorem bareLen_app : ∀ (f : Bool) (rs ts : List Nat), plainGo f rs = true → (∀ r t, ts = r :: t → bareB r false = false) → rs ≠ [] → bareLen f (rs ++ ts) = rs.length
 | f, [], ts, _, _, h => absurd rfl h
 | f, [r], ts, h, ht, _ => by
   simp only [plainGo, Bool.and_eq_true] at h
   rw [List.cons_append, List.nil_append, bareLen, if_pos h.1]
   cases ts with
   | nil => rfl
   | cons x t => rw [bareLen, ht x t rfl]; rfl
 | f, r :: r2 :: rs, ts, h, ht, _ => by
   have h' := h
   rw [plainGo, Bool.and_eq_true] at h
   rw [List.cons_append, bareLen, if_pos h.1, bareLen_app false (r2 :: rs) ts h.2 ht (by simp)]
   simp; omega
theorem fol_sg {q : List UInt8} (hf : Fol q) : ∀ r t, sg q = r :: t → bareB r false = false := fun r t e => by
 cases q with
 | nil => simp [sg_nil] at e
 | cons b l =>
   rw [sg_step _ (by simp)] at e
   injection e with e _
   by_cases hb : b.toNat < 128
   · rw [Lib.decodeL_ascii b l hb] at e
     subst e
     exact hf b l rfl
   · have h1 := dec_hi b l hb
     rw [e] at h1
     cases hbb : bareB r false with
     | false => rfl
     | true => have := bare_lt hbb; omega
theorem fol_pre {q q' : List UInt8} (hf : Fol q) (h : q' <+: q) : Fol q' := fun b t e => by
 subst e
 obtain ⟨s, hs⟩ := h
 exact hf b (t ++ s) (by rw [← hs]; rfl)
theorem unq_back {nm q : List UInt8} (hv : Lib.validD nm = true) (hc : (sg nm).length ≤ 255) (hq : Lib.validD q = true) (hf : Fol q) : unqQ (quoteL nm ++ q) = (0, nm, (quoteL nm).length) := by
 have hvq : Lib.validD (quoteL nm ++ q) = true := by rw [vd_app (vd_quote nm)]; exact hq
 unfold unqQ
 rw [if_pos hvq]
 by_cases hp : plainB nm = true
 · have hQ : quoteL nm = nm := by unfold quoteL; rw [if_pos hv, if_pos hp]
   rw [hQ] at hvq ⊢
   unfold plainB at hp
   rw [Bool.and_eq_true] at hp
   have hne : nm ≠ [] := of_decide_eq_true hp.2
   have hsn : sg nm ≠ [] := fun e => hne (by have := en_of_valid hv; rw [e] at this; exact this.symm)
   obtain ⟨hl, _⟩ := plain_sg true nm (sg nm) (en_of_valid hv).symm hp.1
   have hpre : Lib.hasPrefix (nm ++ q) [39] = false := by
     cases hh : Lib.hasPrefix (nm ++ q) [39] with
     | false => rfl
     | true =>
       obtain ⟨t, ht⟩ := hasP_39 hh
       cases nm with
       | nil => exact absurd rfl hne
       | cons b l =>
         injection ht with hb _
         subst hb
         have h1 := sg_step ((39 : UInt8) :: l) (by simp)
         rw [Lib.decodeL_ascii 39 l (by decide)] at h1
         rw [h1] at hp
         simp [plainGo, bareB] at hp
   rw [hpre]
   simp only [Bool.false_eq_true, if_false]
   have hbl : bareLen true (sg (nm ++ q)) = nm.length := by
     rw [sg_app hv, bareLen_app true (sg nm) (sg q) hp.1 (fol_sg hf) hsn, hl]
   unfold bareQ
   rw [hbl, if_neg (by omega), if_neg (by have := List.length_pos_iff.2 hne; omega), List.take_left]
 · have hQ : quoteL nm = en (quoteR (sg nm)) := by unfold quoteL; rw [if_pos hv, if_neg hp]
   have hQ2 : quoteL nm = 39 :: (en (escs (sg nm)) ++ [39]) := by
     rw [hQ]
     unfold quoteR
     have h1 : (39 :: (escs (sg nm) ++ [39]) : List Nat) = [39] ++ (escs (sg nm) ++ [39]) := rfl
     rw [h1, en_append, en_append, en_one, e1_39]
     rfl
   have hpre : Lib.hasPrefix (quoteL nm ++ q) [39] = true := by rw [hQ2]; rfl
   rw [hpre, if_pos rfl]
   have hok := okRs_escs _ (okRs_sg nm)
   have hsg : sg ((quoteL nm ++ q).drop 1) = escs (sg nm) ++ 39 :: sg q := by
     rw [hQ2]
     show sg ((en (escs (sg nm)) ++ [39]) ++ q) = _
     have h39 : ([39] : List UInt8) = en [39] := by rw [en_one, e1_39]
     rw [h39, ← en_append, sg_en _ (okRs_append hok (okRs_one (okR_ascii (by omega)))), List.append_assoc]
     rfl
   unfold quotQ
   rw [hsg, runQ_back 255 (sg nm) [] 0 0 (sg q) (by simpa using hc)]
   simp only [if_pos, List.nil_append]
   rw [en_of_valid hv, en_of_valid hq, List.length_append]
   simp
theorem bs_bytes (s : ByteArray) : bs s.data.toList = s := bytes_eq' s
theorem on_nil (p : Option Tm × List UInt8) : onL p [] = p := by
 unfold onL
 cases hp : p.1 with
 | none => exact Prod.ext hp.symm rfl
 | some T =>
   show goL p.2 [] (.tm T) = p
   rw [goL_end]; exact Prod.ext hp.symm rfl
def rowL (o : Op) (r : List UInt8) : Option Tm × List UInt8 := goL r [] (.rw o)
theorem row_p (o : Op) (r : List UInt8) {f : Nat} (h : 2 * r.length + 2 ≤ f) : rowL o r = pI f o r := by
 rw [rowL, (go_p f).2 o r [] h, on_nil]
theorem read_eq (r : List UInt8) : readL r = match (beginL r).1 with
   | .lf o => (o, (beginL r).2)
   | .rw c => rowL ⟨c, [], false⟩ (beginL r).2 := by
 rw [read_p r (f := 2 * r.length + 1 + 1) (by omega)]
 unfold pT
 have hs := beginL_shr r
 cases hb : (beginL r).1 with
 | lf o => rfl
 | rw c =>
   rw [hb] at hs
   have := hs (by simp [bgH])
   simp only
   rw [row_p _ _ (f := 2 * r.length + 1) (by omega)]
theorem row_eq (o : Op) (r : List UInt8) : rowL o r = match (readL r).1 with
   | none => (none, (readL r).2)
   | some T => match (putL o T (readL r).2).1 with
     | .no => (none, (putL o T (readL r).2).2)
     | .tm U => (some U, (putL o T (readL r).2).2)
     | .rw o2 => rowL o2 (putL o T (readL r).2).2 := by
 rw [row_p o r (f := 2 * r.length + 2 + 1) (by omega)]
 unfold pI
 rw [← read_p r (f := 2 * r.length + 2) (by omega)]
 have hl := readL_le r
 cases hp : (readL r).1 with
 | none => rfl
 | some T =>
   have hs := (putL_shr o T (readL r).2).1
   simp only
   cases hh : (putL o T (readL r).2).1 with
   | no => rfl
   | tm U => rfl
   | rw o2 =>
     simp only
     rw [row_p o2 _ (f := 2 * r.length + 2) (by omega)]
def Unf (T : Tm) : Prop := ∃ p ∈ parts T, fairB p = false
theorem unf_may {T : Tm} (h : Unf T) : mayB T = false := by
 obtain ⟨p, hp, hf⟩ := h
 unfold mayB
 rw [Bool.and_eq_false_iff]
 right
 rw [List.all_eq_false]
 exact ⟨p, hp, by simp [hf]⟩
theorem unf_L : ∀ {l : List Tm} {x : Tm}, x ∈ l → Unf x → ∃ p ∈ partsL l, fairB p = false
 | y :: l, x, hx, h => by
   rcases List.mem_cons.1 hx with rfl | hx
   · obtain ⟨p, hp, hf⟩ := h
     exact ⟨p, by simp only [partsL, List.mem_append]; exact .inl hp, hf⟩
   · obtain ⟨p, hp, hf⟩ := unf_L hx h
     exact ⟨p, by simp only [partsL, List.mem_append]; exact .inr hp, hf⟩
theorem unf_tup {l : List Tm} {x : Tm} (hx : x ∈ l) (h : Unf x) : Unf (tupT l) := by
 obtain ⟨p, hp, hf⟩ := unf_L hx h
 exact ⟨p, by simp only [tupT, parts, or_false, if_true, true_or, List.mem_cons]; exact .inr hp, hf⟩
theorem unf_cons {a b x : Tm} (hx : x = a ∨ x = b) (h : Unf x) : Unf (consT a b) := by
 obtain ⟨p, hp, hf⟩ := unf_L (l := [a, b]) (by simpa using hx) h
 exact ⟨p, by simp only [consT, parts, or_true, if_true, List.mem_cons]; exact .inr hp, hf⟩
theorem unf_consL : ∀ {l : List Tm} {t x : Tm}, x ∈ l ∨ x = t → Unf x → Unf (consL l t)
 | [], t, x, hx, h => by
   rcases hx with hx | rfl
   · simp at hx
   · exact h
 | y :: l, t, x, hx, h => by
   unfold consL
   rcases hx with hx | rfl
   · rcases List.mem_cons.1 hx with rfl | hx
     · exact unf_cons (.inl rfl) h
     · exact unf_cons (.inr rfl) (unf_consL (.inl hx) h)
   · exact unf_cons (.inr rfl) (unf_consL (.inr rfl) h)
theorem tup_long {l : List Tm} (h : 255 < l.length) : Unf (tupT l) := by
 refine ⟨tupT l, by rw [parts_eq]; simp, ?_⟩
 unfold fairB
 rw [Bool.and_eq_false_iff]
 right
 have h2 : ¬ ((l.length : Int) ≤ 255) := by omega
 simp [withinB, tupT, h2]
def badO (o : Option Tm) : Prop := ∀ T, o = some T → Unf T
theorem whole_bad {o : Op} (h : ∃ x ∈ o.its, Unf x) : badO (wholeL o) := by
 obtain ⟨x, hx, hu⟩ := h
 intro T hT
 unfold wholeL at hT
 split at hT
 · cases hT; exact unf_tup hx hu
 · split at hT
   · split at hT
     · cases hT
     · rename_i t ht
       split at hT
       · cases hT
       · cases hT
         refine unf_consL ?_ hu
         obtain ⟨ys, hys⟩ := List.getLast?_eq_some_iff.1 ht
         rw [hys] at hx ⊢
         rw [List.dropLast_concat]
         rcases List.mem_append.1 hx with hx | hx
         · exact .inl hx
         · simp at hx; exact .inr hx
   · cases hT; exact unf_consL (.inl hx) hu
theorem put_bad {o : Op} {T : Tm} {r : List UInt8} (h : ∃ x ∈ o.its ++ [T], Unf x) : (∀ U, (putL o T r).1 = .tm U → Unf U) ∧ (∀ o2, (putL o T r).1 = .rw o2 → ∃ x ∈ o2.its, Unf x) := by
 have hw : badO (wholeL (o.add T)) := whole_bad (o := o.add T) h
 unfold putL
 split
 · cases hh : wholeL (o.add T) with
   | none => exact ⟨fun U e => by simp [hdO] at e, fun o2 e => by simp [hdO] at e⟩
   | some V =>
     refine ⟨fun U e => ?_, fun o2 e => by simp [hdO] at e⟩
     simp only [hdO, Hd.tm.injEq] at e
     subst e
     exact hw _ hh
 · split
   · exact ⟨fun U e => (by simp at e), fun o2 e => (by simp at e)⟩
   · split
     · refine ⟨fun U e => (by simp at e), fun o2 e => ?_⟩
       simp only [Hd.rw.injEq] at e
       subst e; exact h
     · split
       · refine ⟨fun U e => (by simp at e), fun o2 e => ?_⟩
         simp only [Hd.rw.injEq] at e
         subst e; exact h
       · exact ⟨fun U e => (by simp at e), fun o2 e => (by simp at e)⟩
theorem row_bad : ∀ (n : Nat) (r : List UInt8) (o : Op), r.length ≤ n → (∃ x ∈ o.its, Unf x) → badO (rowL o r).1 := by
 intro n
 induction n with
 | zero =>
   intro r o hr h T hT
   have : r = [] := List.eq_nil_of_length_eq_zero (by omega)
   subst this
   rw [row_eq] at hT
   have e : (readL []).1 = none := by kernel_rfl
   rw [e] at hT
   simp at hT
 | succ n ih =>
   intro r o hr h T hT
   rw [row_eq] at hT
   cases hp : (readL r).1 with
   | none => rw [hp] at hT; simp at hT
   | some U =>
     rw [hp] at hT
     simp only at hT
     obtain ⟨x, hx, hu⟩ := h
     have hb := put_bad (o := o) (T := U) (r := (readL r).2) ⟨x, List.mem_append.2 (.inl hx), hu⟩
     have hs := putL_shr o U (readL r).2
     have hl := readL_le r
     cases hh : (putL o U (readL r).2).1 with
     | no => rw [hh] at hT; simp at hT
     | tm V =>
       rw [hh] at hT
       simp only [Option.some.injEq] at hT
       subst hT
       exact hb.1 _ hh
     | rw o2 =>
       rw [hh] at hT hs
       have := hs.2 (by simp)
       exact ih _ o2 (by omega) (hb.2 o2 hh) T hT
theorem row_badT {o : Op} {r : List UInt8} {T : Tm} (hp : (readL r).1 = some T) (h : Unf T) : badO (rowL o r).1 := by
 intro U hU
 rw [row_eq, hp] at hU
 simp only at hU
 have hb := put_bad (o := o) (T := T) (r := (readL r).2) ⟨T, by simp, h⟩
 cases hh : (putL o T (readL r).2).1 with
 | no => rw [hh] at hU; simp at hU
 | tm V =>
   rw [hh] at hU
   simp only [Option.some.injEq] at hU
   subst hU
   exact hb.1 _ hh
 | rw o2 =>
   rw [hh] at hU
   exact row_bad _ _ o2 (Nat.le_refl _) (hb.2 o2 hh) U hU
theorem badO_none : badO none := fun _ h => by cases h
theorem row_badO {o : Op} {r : List UInt8} (h : badO (readL r).1) : badO (rowL o r).1 := by
 cases hp : (readL r).1 with
 | none =>
   rw [row_eq, hp]
   exact badO_none
 | some T => exact row_badT hp (h T hp)
theorem bareLen_add : ∀ (f : Bool) (rs ts : List Nat), plainGo f rs = true → rs ≠ [] → bareLen f (rs ++ ts) = rs.length + bareLen false ts
 | f, [], ts, _, h => absurd rfl h
 | f, [r], ts, h, _ => by
   simp only [plainGo, Bool.and_eq_true] at h
   rw [List.cons_append, List.nil_append, bareLen, if_pos h.1]
   simp
 | f, r :: r2 :: rs, ts, h, _ => by
   rw [plainGo, Bool.and_eq_true] at h
   rw [List.cons_append, bareLen, if_pos h.1, bareLen_add false (r2 :: rs) ts h.2 (by simp)]
   simp; omega
theorem fol_of_len {q : List UInt8} (h : bareLen false (sg q) = 0) : Fol q := fun b t e => by
 subst e
 rw [sg_step _ (by simp)] at h
 cases hb : bareB b.toNat false with
 | false => rfl
 | true =>
   have hl := bare_lt hb
   rw [Lib.decodeL_ascii b t hl, bareLen, if_pos hb] at h
   omega
theorem unq_back2 {nm q : List UInt8} (hv : Lib.validD nm = true) (hc : (sg nm).length ≤ 255) (hq : Lib.validD q = true) (hf : plainB nm = true → Fol q) : unqQ (quoteL nm ++ q) = (0, nm, (quoteL nm).length) := by
 by_cases hp : plainB nm = true
 · exact unq_back hv hc hq (hf hp)
 · have hvq : Lib.validD (quoteL nm ++ q) = true := by rw [vd_app (vd_quote nm)]; exact hq
   unfold unqQ
   rw [if_pos hvq]
   have hQ : quoteL nm = en (quoteR (sg nm)) := by unfold quoteL; rw [if_pos hv, if_neg hp]
   have hQ2 : quoteL nm = 39 :: (en (escs (sg nm)) ++ [39]) := by
     rw [hQ]
     unfold quoteR
     have h1 : (39 :: (escs (sg nm) ++ [39]) : List Nat) = [39] ++ (escs (sg nm) ++ [39]) := rfl
     rw [h1, en_append, en_append, en_one, e1_39]
     rfl
   have hpre : Lib.hasPrefix (quoteL nm ++ q) [39] = true := by rw [hQ2]; rfl
   rw [hpre, if_pos rfl]
   have hok := okRs_escs _ (okRs_sg nm)
   have hsg : sg ((quoteL nm ++ q).drop 1) = escs (sg nm) ++ 39 :: sg q := by
     rw [hQ2]
     show sg ((en (escs (sg nm)) ++ [39]) ++ q) = _
     have h39 : ([39] : List UInt8) = en [39] := by rw [en_one, e1_39]
     rw [h39, ← en_append, sg_en _ (okRs_append hok (okRs_one (okR_ascii (by omega)))), List.append_assoc]
     rfl
   unfold quotQ
   rw [hsg, runQ_back 255 (sg nm) [] 0 0 (sg q) (by simpa using hc)]
   simp only [if_pos, List.nil_append]
   rw [en_of_valid hv, en_of_valid hq, List.length_append]
   simp
theorem vR_okR {n : Nat} (h : vR n = true) : okR n := by
 unfold vR Lib.validRune at h
 unfold okR
 simp at h
 omega
theorem takeQ_okR {L part : Nat} {out : List Nat} {num dig r : Nat} (h : (takeQ L part out num dig r).1 = 0) (ho : okRs out) (hr : okR r) : okRs (takeQ L part out num dig r).2.2.1 := by
 have add : ∀ x, okR x → (addQ L out num dig x).1 = 0 → okRs (addQ L out num dig x).2.2.1 := fun x hx hh => by
   unfold addQ at hh ⊢
   split
   · rename_i hl; rw [if_pos hl] at hh; simp at hh
   · exact okRs_append ho (okRs_one hx)
 unfold takeQ at h ⊢
 split
 · rename_i h1
   rw [if_pos h1] at h
   unfold escQ at h ⊢
   split
   · rename_i h2; rw [if_pos h2] at h; exact add r hr h
   · rename_i h2
     rw [if_neg h2] at h
     split
     · rename_i h3; rw [if_pos h3] at h; exact add 10 (okR_ascii (by omega)) h
     · rename_i h3
       rw [if_neg h3] at h
       split
       · exact ho
       · exact ho
 · rename_i h1
   rw [if_neg h1] at h
   split
   · rename_i h2
     rw [if_pos h2] at h
     unfold numQ at h ⊢
     split
     · rename_i h3
       rw [if_pos h3] at h
       split
       · rename_i h4; rw [if_pos h4] at h; simp at h
       · rename_i h4
         rw [if_neg h4] at h
         refine add num (vR_okR ?_) h
         cases hv : vR num with
         | true => rfl
         | false => exact absurd (.inr hv) h4
     · split
       · exact ho
       · exact ho
   · rename_i h2
     rw [if_neg h2] at h
     split
     · exact ho
     · rename_i h3
       rw [if_neg h3] at h
       split
       · exact ho
       · rename_i h4
         rw [if_neg h4] at h
         exact add r hr h
theorem runQ_okR (L : Nat) : ∀ (t : List Nat) (part : Nat) (out : List Nat) (num dig : Nat), okRs t → okRs out → okRs (runQ L part out num dig t).2.1
 | [], _, _, _, _, _, _ => by intro x hx; simp [runQ] at hx
 | r :: t, part, out, num, dig, ht, ho => by
   have hr : okR r := ht r (by simp)
   have ht' : okRs t := fun x hx => ht x (by simp [hx])
   unfold runQ
   split
   · exact ho
   · split
     · rename_i h
       exact runQ_okR L t _ _ _ _ ht' (takeQ_okR h ho hr)
     · intro x hx; simp at hx
theorem bare_take : ∀ (f : Bool) (l : List UInt8), Lib.validD l = true → Lib.validD (l.take (bareLen f (sg l))) = true ∧ (sg (l.take (bareLen f (sg l)))).length = bareLen f (sg l)
 | f, [], _ => by
   have e : bareLen f (sg []) = 0 := by simp [sg_nil, bareLen]
   rw [e]
   exact ⟨rfl, by simp [sg_nil]⟩
 | f, b :: t, hv => by
   by_cases hb : b.toNat < 128
   · have e : sg (b :: t) = b.toNat :: sg t := by rw [sg_step _ (by simp), Lib.decodeL_ascii b t hb]; rfl
     rw [e, bareLen]
     by_cases hh : bareB b.toNat f = true
     · rw [if_pos hh]
       have hv2 : Lib.validD t = true := by rw [vd_asc _ hb] at hv; exact hv
       obtain ⟨i1, i2⟩ := bare_take false t hv2
       have e2 : (b :: t).take (1 + bareLen false (sg t)) = b :: t.take (bareLen false (sg t)) := by rw [Nat.add_comm]; rfl
       rw [e2, vd_asc _ hb]
       refine ⟨i1, ?_⟩
       rw [sg_step _ (by simp), Lib.decodeL_ascii b _ hb]
       show (sg (t.take (bareLen false (sg t)))).length + 1 = _
       rw [i2]; omega
     · rw [if_neg hh]
       exact ⟨rfl, by simp [sg_nil]⟩
   · have e : bareLen f (sg (b :: t)) = 0 := by
       rw [sg_step _ (by simp), bareLen]
       have h1 := dec_hi b t hb
       rw [if_neg]
       intro hh
       have := bare_lt hh
       omega
     rw [e]
     exact ⟨rfl, by simp [sg_nil]⟩
theorem unq_ok (l : List UInt8) (h : (unqQ l).1 = 0) : Lib.validD (unqQ l).2.1 = true ∧ (sg (unqQ l).2.1).length ≤ 255 := by
 unfold unqQ at h ⊢
 by_cases hv : Lib.validD l = true
 · rw [if_pos hv] at h ⊢
   by_cases hp : Lib.hasPrefix l [39] = true
   · rw [if_pos hp] at h ⊢
     unfold quotQ at h ⊢
     by_cases hq : (runQ 255 0 [] 0 0 (sg (l.drop 1))).1 = 0
     · rw [if_pos hq]
       have h1 := runQ_len 255 (sg (l.drop 1)) 0 [] 0 0 (by simp)
       have h2 := runQ_okR 255 (sg (l.drop 1)) 0 [] 0 0 (okRs_sg _) (by intro x hx; simp at hx)
       refine ⟨valid_en0 _ h2, ?_⟩
       show (sg (en _)).length ≤ 255
       rw [sg_en0 _ h2]
       exact h1
     · rw [if_neg hq] at h
       exact absurd h hq
   · rw [if_neg hp] at h ⊢
     unfold bareQ at h ⊢
     split at h
     · simp at h
     · split at h
       · simp at h
       · rename_i h1 h2
         rw [if_neg h1, if_neg h2]
         obtain ⟨e1, e2⟩ := bare_take true l hv
         exact ⟨e1, by show (sg (l.take (bareLen true (sg l)))).length ≤ 255; rw [e2]; omega⟩
 · rw [if_neg hv] at h
   simp at h
theorem fol_plain {x q : List UInt8} {n : Nat} (hp : plainB x = true) (hx : Lib.validD x = true) (hq : Lib.validD q = true) (h : unqQ (x ++ q) = (0, x, n)) : Fol q := by
 unfold plainB at hp
 rw [Bool.and_eq_true] at hp
 have hne : x ≠ [] := of_decide_eq_true hp.2
 have hsn : sg x ≠ [] := fun e => hne (by have := en_of_valid hx; rw [e] at this; exact this.symm)
 obtain ⟨hl, _⟩ := plain_sg true x (sg x) (en_of_valid hx).symm hp.1
 have hpre : Lib.hasPrefix (x ++ q) [39] = false := by
   cases hh : Lib.hasPrefix (x ++ q) [39] with
   | false => rfl
   | true =>
     obtain ⟨t, ht⟩ := hasP_39 hh
     cases x with
     | nil => exact absurd rfl hne
     | cons b l =>
       injection ht with hb _
       subst hb
       have h1 := sg_step ((39 : UInt8) :: l) (by simp)
       rw [Lib.decodeL_ascii 39 l (by decide)] at h1
       rw [h1] at hp
       simp [plainGo, bareB] at hp
 have hv : Lib.validD (x ++ q) = true := by rw [vd_app hx]; exact hq
 unfold unqQ at h
 rw [if_pos hv, hpre] at h
 simp only [Bool.false_eq_true, if_false] at h
 have hb : bareLen true (sg (x ++ q)) = x.length + bareLen false (sg q) := by rw [sg_app hx, bareLen_add true (sg x) (sg q) hp.1 hsn, hl]
 unfold bareQ at h
 rw [hb] at h
 split at h
 · simp at h
 · split at h
   · simp at h
   · have h2 := congrArg (fun y => y.2.1.length) h
     simp only [List.length_take, List.length_append] at h2
     have h3 := bareLen_le false (sg q)
     have h4 := sg_le q
     exact fol_of_len (by omega)
theorem take_len {l a : List UInt8} {n : Nat} (h : l.take n = a) (hn : n ≤ l.length) : n = a.length := by
 rw [← h, List.length_take]; omega
theorem name_all {r x : List UInt8} {n : Nat} (hv : Lib.validD r = true) (hr : r.length ≤ 5000) (hu : unqQ r = (0, x, n)) (ht : r.take n = quoteL x) : nameL r = (some (atomT (bs x)), r.drop n) := by
 have hok := unq_ok r (by rw [hu])
 rw [hu] at hok
 have hsz := (unq_sizes r hr).2
 rw [hu] at hsz
 have hn := take_len ht hsz
 obtain ⟨q, hq⟩ : ∃ q, r.drop n = q := ⟨_, rfl⟩
 have hrq : r = quoteL x ++ q := by rw [← ht, ← hq, List.take_append_drop]
 have hqv : Lib.validD q = true := by rw [hrq, vd_app (vd_quote x)] at hv; exact hv
 have hf : plainB x = true → Fol q := fun hp => by
   have hQ : quoteL x = x := by unfold quoteL; rw [if_pos hok.1, if_pos hp]
   rw [hrq, hQ] at hu
   exact fol_plain hp hok.1 hqv hu
 obtain ⟨q', h1, h2, h3⟩ := near_split (vd_quote x) hqv (quote_le3 hok.2)
 have h4 := unq_back2 hok.1 hok.2 h3 (fun hp => fol_pre (hf hp) h2)
 unfold nameL
 rw [hrq, h1, h4]
 simp only [if_pos]
 rw [List.take_left, if_pos rfl, hn]
theorem name_none {r : List UInt8} (hv : Lib.validD r = true) (hr : r.length ≤ 5000) (h : (unqQ r).1 ≠ 0 ∨ r.take (unqQ r).2.2 ≠ quoteL (unqQ r).2.1) : (nameL r).1 = none := by
 cases hm : (nameL r).1 with
 | none => rfl
 | some T =>
   exfalso
   unfold nameL at hm
   split at hm
   · rename_i hu0
     split at hm
     · rename_i ht
       obtain ⟨N, hN⟩ : ∃ N, r.take (nearN r) = N := ⟨_, rfl⟩
       rw [hN] at hu0 ht
       have hNl : N.length ≤ r.length := by rw [← hN, List.length_take]; omega
       have hok := unq_ok N hu0
       have hsz := (unq_sizes N (by omega)).2
       obtain ⟨E, x, n, hE⟩ : ∃ E x n, unqQ N = (E, x, n) := ⟨_, _, _, rfl⟩
       rw [hE] at hu0 ht hok hsz
       simp only at hu0 ht hok hsz
       subst hu0
       have hn := take_len ht (by omega)
       obtain ⟨q, hq⟩ : ∃ q, r.drop n = q := ⟨_, rfl⟩
       have hrq : r = quoteL x ++ q := by rw [← ht, ← hq, List.take_append_drop]
       have hqv : Lib.validD q = true := by rw [hrq, vd_app (vd_quote x)] at hv; exact hv
       obtain ⟨q', h1, h2, h3⟩ := near_split (vd_quote x) hqv (quote_le3 hok.2)
       rw [← hrq, hN] at h1
       have hf : plainB x = true → Fol q := fun hp => by
         have hQ : quoteL x = x := by unfold quoteL; rw [if_pos hok.1, if_pos hp]
         rw [hQ] at h1 hrq
         have hE2 := hE
         rw [h1] at hE2
         have hF := fol_plain hp hok.1 h3 hE2
         intro b t e
         obtain ⟨s, hs⟩ := h2
         cases q' with
         | cons c u =>
           have : c = b := by rw [e] at hs; injection hs
           subst this
           exact hF c u rfl
         | nil =>
           cases hbb : bareB b.toNat false with
           | false => rfl
           | true =>
             exfalso
             have hb := bare_lt hbb
             rw [e, vd_asc _ hb] at hqv
             have hNx : N.length = x.length := by rw [h1]; simp
             have hrl : r.length = x.length + (t.length + 1) := by rw [hrq, e]; simp
             have hNr : N.length = min (nearN r) r.length := by rw [← hN, List.length_take]
             unfold nearN at hNr
             split at hNr
             · omega
             · have hx5 : x.length ≤ 255 := by
                 have hp2 := hp
                 unfold plainB at hp2
                 rw [Bool.and_eq_true] at hp2
                 have := (plain_sg true x (sg x) (en_of_valid hok.1).symm hp2.1).1
                 have := hok.2
                 omega
               have := near_ge (r := r) (m := x.length + 1) (fun c hc => by
                 rw [hrq, e, List.getElem?_append_right (by omega)] at hc
                 have e2 : x.length + 1 - x.length = 1 := by omega
                 rw [e2, List.getElem?_cons_succ] at hc
                 cases t with
                 | nil => simp at hc
                 | cons d v =>
                   simp only [List.getElem?_cons_zero, Option.some.injEq] at hc
                   subst hc
                   exact vd_head hqv) 1277 (by omega)
               omega
       have h4 := unq_back2 hok.1 hok.2 hqv hf
       rw [← hrq] at h4
       rw [h4] at h
       rcases h with h | h
       · exact h rfl
       · apply h
         show r.take (quoteL x).length = quoteL x
         rw [hrq, List.take_left]
     · cases hm
   · cases hm
end Go.Proofs.YtlojfmlaookpmaaGreatDoor
