/- divideLong of package big. -/
import Derived.Test.YtccogdlmlegmbaaBigDivC
namespace Go.Proofs.Ytccogdlmlegmbaa
open Go.ChangeShapes Go.WideShapes Go.ChangeAt Go.RowKit
set_option linter.unusedSimpArgs false
set_option linter.unusedVariables false
theorem raised_v (oa : Option Addr) (ca s : Nat) (la : List Nat) (w : World) (hs : s < 32) (ma : Lm 4294967296 la) (za : la.length ≤ 1000000) (ha : Lies oa la w) :
    Calls Try.prog 58 #[.slice oa la.length ca, .int .i64 (s : Int)] w fun e w' => ∃ (g z : Nat) (L : List Nat), e = .returned (.slice (some ⟨g, 0, none⟩) z z) ∧ z = la.length + 1 ∧ L.length = z ∧ w.heap.size ≤ g ∧ g < w'.heap.size ∧ Own g L w' ∧ Lm 4294967296 L ∧ gval 4294967296 L = gval 4294967296 la * 2 ^ s ∧ Below w.heap.size w w' := by
  refine (raised_w oa ca s la w hs ma za ha).mono ?_
  rintro e w' ⟨L, rfl, hO, hm, hg, hl, b, hz⟩
  exact ⟨_, _, L, rfl, hl, rfl, Nat.le_refl _, hz, hO, hm, hg, b⟩
theorem raised_v2 (oa : Option Addr) (ca s n : Nat) (la : List Nat) (w : World) (hn : la.length = n) (hs : s < 32) (ma : Lm 4294967296 la) (za : la.length ≤ 1000000) (ha : Lies oa la w) :
    Calls Try.prog 58 #[.slice oa n ca, .int .i64 (s : Int)] w fun e w' => ∃ (g z : Nat) (L : List Nat), e = .returned (.slice (some ⟨g, 0, none⟩) z z) ∧ z = n + 1 ∧ L.length = z ∧ w.heap.size ≤ g ∧ g < w'.heap.size ∧ Own g L w' ∧ Lm 4294967296 L ∧ gval 4294967296 L = gval 4294967296 la * 2 ^ s ∧ Below w.heap.size w w' := by
  subst hn; exact raised_v oa ca s la w hs ma za ha
theorem takeTimes_v (g i cp cf T n np : Nat) (o : Option Addr) (L lf : List Nat) (w : World) (hn : lf.length = n) (hnp : np = n + 1) (hT : T < 4294967296) (hm : Lm 4294967296 L) (hmf : Lm 4294967296 lf) (hz : lf.length ≤ 1000000) (hiz : i ≤ 1000000) (hlen : i + lf.length + 1 ≤ L.length) (hO : Own g L w) (hf : ∀ w', Only g w w' → Lies o lf w') :
    Calls Try.prog 60 #[.slice (some ⟨g, i, none⟩) np cp, .slice o n cf, .int .u64 (T : Int)] w fun e w' => ∃ (L' : List Nat) (c p : Nat), e = .returned (.bool (decide (p < c))) ∧ L[i + n]? = some p ∧ Own g L' w' ∧ L'.length = L.length ∧ Lm 4294967296 L' ∧ (∀ j, j < i ∨ i + n ≤ j → L'[j]? = L[j]?) ∧ gval 4294967296 ((L'.drop i).take n) + T * gval 4294967296 lf = gval 4294967296 ((L.drop i).take n) + 4294967296 ^ n * c ∧ Only g w w' := by
  subst hn hnp; exact takeTimes_w g i cp cf T o L lf w hT hm hmf hz hiz hlen hO hf
theorem giveBack_v (g i cp cf n np : Nat) (o : Option Addr) (L lf : List Nat) (w : World) (hn : lf.length = n) (hnp : np = n + 1) (hm : Lm 4294967296 L) (hmf : Lm 4294967296 lf) (hz : lf.length ≤ 1000000) (hiz : i ≤ 1000000) (hlen : i + lf.length + 1 ≤ L.length) (hO : Own g L w) (hf : ∀ w', Only g w w' → Lies o lf w') :
    Calls Try.prog 61 #[.slice (some ⟨g, i, none⟩) np cp, .slice o n cf] w fun e w' => (∃ v, e = .returned v) ∧ ∃ (L' : List Nat), Own g L' w' ∧ L'.length = L.length ∧ Lm 4294967296 L' ∧ (∀ j, j < i ∨ i + n ≤ j → L'[j]? = L[j]?) ∧ (∃ c, gval 4294967296 ((L'.drop i).take n) + 4294967296 ^ n * c = gval 4294967296 ((L.drop i).take n) + gval 4294967296 lf) ∧ Only g w w' := by
  subst hn hnp; exact giveBack_w g i cp cf o L lf w hm hmf hz hiz hlen hO hf
theorem lower_v (g c s n : Nat) (l : List Nat) (w : World) (hn : l.length = n) (hs : s < 32) (hl : Lm 4294967296 l) (hlen : l.length ≤ 1000000) (hO : Own g l w) :
    Calls Try.prog 62 #[.slice (some ⟨g, 0, none⟩) n c, .int .i64 (s : Int)] w fun e w' => (∃ v, e = .returned v) ∧ ∃ L, Own g L w' ∧ Lm 4294967296 L ∧ gval 4294967296 L = gval 4294967296 l / 2 ^ s ∧ L.length = n ∧ Only g w w' := by
  subst hn; exact lower_w g c s l w hs hl hlen hO
theorem mul_top {x P : Nat} (hP : 0 < P) (hB : 4294967296 % P = 0) (h : x * P < 4294967296) : (x + 1) * P ≤ 4294967296 := by
  obtain ⟨b, hb⟩ : ∃ b, 4294967296 = b * P := ⟨4294967296 / P, by rw [Nat.mul_comm]; have := Nat.div_add_mod 4294967296 P; omega⟩
  rw [hb] at h ⊢
  exact Nat.mul_le_mul_right _ (Nat.lt_of_mul_lt_mul_right h)
/-- a divisor raised by its leading noughts has no limb more -/
theorem top_nought {Bn L2 : List Nat} {n x k s : Nat} (hs : s < 32) (hm : Lm 4294967296 Bn) (hn : gval 4294967296 Bn = n) (hx : Bn[k]? = some x) (hl : Bn.length = k + 1) (hxs : x * 2 ^ s < 4294967296) (hl2 : L2.length = k + 2) (hv : gval 4294967296 L2 = gval 4294967296 Bn * 2 ^ s) : gval 4294967296 (L2.take (k + 1)) = n * 2 ^ s := by
  obtain ⟨hP0, hP1⟩ := pow32 hs
  have h1 := gval_take_succ 4294967296 hx
  rw [List.take_of_length_le (by omega), hn] at h1
  have h2 := gval_lt (hm.take k)
  rw [List.length_take, Nat.min_eq_left (by omega)] at h2
  have h3 := mul_top (by omega) (pow_mod32 hs) hxs
  have h4 : n < 4294967296 ^ k * (x + 1) := by rw [Nat.mul_add, Nat.mul_one]; omega
  have h5 : n * 2 ^ s < 4294967296 ^ (k + 1) := by
    have e1 : n * 2 ^ s < 4294967296 ^ k * (x + 1) * 2 ^ s := (Nat.mul_lt_mul_right (by omega)).2 h4
    have e2 : 4294967296 ^ k * ((x + 1) * 2 ^ s) ≤ 4294967296 ^ k * 4294967296 := Nat.mul_le_mul_left _ h3
    rw [pow_step]
    rw [Nat.mul_assoc] at e1
    omega
  have h6 := gval_split 4294967296 (k + 1) L2 (by omega)
  rw [hv, hn] at h6
  have h7 : gval 4294967296 (L2.drop (k + 1)) = 0 := by
    refine Nat.eq_zero_of_not_pos fun hp => ?_
    have : 4294967296 ^ (k + 1) * 1 ≤ 4294967296 ^ (k + 1) * gval 4294967296 (L2.drop (k + 1)) := Nat.mul_le_mul_left _ hp
    omega
  rw [h7] at h6
  omega
/-- the highest limbs are less than the divisor -/
theorem start_rest {L1 : List Nat} {m n P a k qn : Nat} (hP : 0 < P) (hm : m < 4294967296 ^ a) (hn : 4294967296 ^ k ≤ n) (hq : qn + k = a) (hl : qn ≤ L1.length) (hv : gval 4294967296 L1 = m * P) : gval 4294967296 (L1.drop qn) < n * P := by
  have h1 := gval_split 4294967296 qn L1 hl
  rcases Nat.lt_or_ge (gval 4294967296 (L1.drop qn)) (n * P) with h | h
  · exact h
  · exfalso
    have h2 : 4294967296 ^ qn * (n * P) ≤ 4294967296 ^ qn * gval 4294967296 (L1.drop qn) := Nat.mul_le_mul_left _ h
    have h3 : 4294967296 ^ qn * (4294967296 ^ k * P) ≤ 4294967296 ^ qn * (n * P) := Nat.mul_le_mul_left _ (Nat.mul_le_mul_right _ hn)
    have h4 : 4294967296 ^ qn * (4294967296 ^ k * P) = 4294967296 ^ a * P := by rw [← Nat.mul_assoc, ← Nat.pow_add, hq]
    have h5 : m * P < 4294967296 ^ a * P := (Nat.mul_lt_mul_right hP).2 hm
    omega
/-- one digit of a quotient: what is taken and what rests -/
theorem digit_fit {u v t low low' z c N : Nat} (hu : u = low + N * z) (hlow' : low' < N) (hv : v < N) (hv0 : 0 < v) (ht : low' + t * v = low + N * c) (h1 : u / v ≤ t) (h2 : t ≤ u / v + 1) (hzc : ¬ z < c) : t * v + low' = u ∧ low' < v := by
  have hle : t * v ≤ u := by
    have : N * c ≤ N * z := Nat.mul_le_mul_left _ (by omega)
    omega
  have htq : t = u / v := by
    have := (Nat.le_div_iff_mul_le hv0).2 hle
    omega
  have hr := Nat.div_add_mod u v
  have hrl := Nat.mod_lt u hv0
  rw [← htq, Nat.mul_comm] at hr
  have hcz : z = c := by
    rcases Nat.lt_or_ge c z with h | h
    · exfalso
      have : N * (c + 1) ≤ N * z := Nat.mul_le_mul_left _ h
      rw [Nat.mul_add] at this
      omega
    · omega
  subst hcz
  omega
theorem digit_back {u v t low low' low2 z c c2 N : Nat} (hu : u = low + N * z) (hlow' : low' < N) (hlow2 : low2 < N) (hv : v < N) (hv0 : 0 < v) (ht : low' + t * v = low + N * c) (h2 : t ≤ u / v + 1) (hzc : z < c) (hb : low2 + N * c2 = low' + v) : 0 < t ∧ (t - 1) * v + low2 = u ∧ low2 < v := by
  obtain ⟨d, rfl⟩ : ∃ d, c = z + d + 1 := ⟨c - z - 1, by omega⟩
  have e1 : N * (z + d + 1) = N * z + N * d + N := by rw [Nat.mul_add, Nat.mul_add, Nat.mul_one]
  have hgt : u < t * v := by omega
  have ht0 : 0 < t := by
    refine Nat.pos_of_ne_zero fun e => ?_
    subst e; omega
  obtain ⟨q, rfl⟩ : ∃ q, t = q + 1 := ⟨t - 1, by omega⟩
  have hq : q = u / v := by
    have h3 : u / v < q + 1 := (Nat.div_lt_iff_lt_mul hv0).2 hgt
    omega
  have hr := Nat.div_add_mod u v
  have hrl := Nat.mod_lt u hv0
  rw [← hq, Nat.mul_comm] at hr
  rw [Nat.add_mul, Nat.one_mul] at ht hgt
  refine ⟨ht0, ?_⟩
  have hlow : low2 + N * c2 = u % v + (N * d + N) := by omega
  have hmod : low2 = u % v := by
    have h5 := congrArg (· % N) hlow
    simp only [Nat.add_mul_mod_self_left] at h5
    rw [show u % v + (N * d + N) = u % v + N * (d + 1) by rw [Nat.mul_add, Nat.mul_one], Nat.add_mul_mod_self_left, Nat.mod_eq_of_lt hlow2, Nat.mod_eq_of_lt (by omega)] at h5
    exact h5
  rw [Nat.add_sub_cancel]
  omega
/-- limbs that are worth n, wherever they lie -/
def SlV (v : Value) (n K : Nat) (w : World) : Prop := ∃ (o : Option Addr) (l : List Nat) (c z : Nat), v = .slice o z c ∧ z = l.length ∧ Lies o l w ∧ l.length ≤ c ∧ Lm 4294967296 l ∧ gval 4294967296 l = n ∧ l.length ≤ K
theorem SlV.isN {v : Value} {n K : Nat} {w : World} (h : SlV v n K w) (s : Bool) : IsN (.agg #[.bool s, v]) (sv s n) K w := by
  obtain ⟨o, l, c, z, rfl, rfl, h1, h2, h3, h4, h5⟩ := h
  exact ⟨s, o, l, c, rfl, h1, h2, h3, by rw [h4], h5⟩
theorem SlV.below {v : Value} {n K : Nat} {w w' : World} (h : SlV v n K w) (hb : Below w.heap.size w w') : SlV v n K w' := by
  obtain ⟨o, l, c, z, rfl, rfl, h1, rest⟩ := h
  exact ⟨o, l, c, _, rfl, rfl, h1.below hb, rest⟩
theorem Own.only {g k : Nat} {l : List Nat} {w w' : World} (h : Own k l w) (ho : Only g w w') (hk : k ≠ g) : Own k l w' :=
  ⟨fun j x hx => (World.cell?_of_block (a := ⟨k, j, none⟩) (ho.2.2 k hk)).trans (h.1 j x hx), fun j => (World.frozen?_of_block (a := ⟨k, j, none⟩) (ho.2.2 k hk)).trans (h.2 j)⟩
theorem Own.dr {k : Nat} {l : List Nat} {w w' : World} (h : Own k l w) (hd : Dr w w') : Own k l w' := by
  obtain ⟨m, rfl⟩ := hd; exact h
theorem Dr.below {B : Nat} {a w w' : World} (hd : Dr w w') (h : Below B a w) : Below B a w' := by
  obtain ⟨m, rfl⟩ := hd; exact below_drewNv h m
theorem Dr.size {w w' : World} (hd : Dr w w') : w'.heap.size = w.heap.size := by
  obtain ⟨m, rfl⟩ := hd; rfl
theorem part_step {L : List Nat} {j M x : Nat} (hx : L[j]? = some x) : gval 4294967296 ((L.drop j).take (M + 1)) = x + 4294967296 * gval 4294967296 ((L.drop (j + 1)).take M) := by
  have hi : j < L.length := (List.getElem?_eq_some_iff.1 hx).1
  have hxe : L[j] = x := (List.getElem?_eq_some_iff.1 hx).2
  rw [List.drop_eq_getElem_cons hi, hxe]; rfl
theorem top_le {u v U N2 T z P u' v' x y : Nat} (hU : U = x + 4294967296 * (y + 4294967296 * z)) (hu : u = u' + P * U) (hv : v = v' + P * (N2 + 4294967296 * T)) (hv' : v' < P) (hN : N2 < 4294967296) (h : u < 4294967296 * v) : z ≤ T := by
  have hP : 0 < P := by omega
  have h1 : P * U < P * (4294967296 * (N2 + 4294967296 * T + 1)) := by
    have h2 : v < P * (N2 + 4294967296 * T + 1) := by rw [Nat.mul_add P _ 1, Nat.mul_one]; omega
    have h3 : 4294967296 * v ≤ 4294967296 * (P * (N2 + 4294967296 * T + 1)) := Nat.mul_le_mul_left _ (Nat.le_of_lt h2)
    have h4 : P * (4294967296 * (N2 + 4294967296 * T + 1)) = 4294967296 * (P * (N2 + 4294967296 * T + 1)) := Nat.mul_left_comm _ _ _
    omega
  have := Nat.lt_of_mul_lt_mul_left h1
  omega
set_option maxHeartbeats 4000000 in
theorem divideLong_w (oa ob : Option Addr) (ca cb m n K : Nat) (w : World) (hK : K ≤ 100000) (za : (glim 4294967296 m).length ≤ K) (hn2 : 2 ≤ (glim 4294967296 n).length) (hnm : n ≤ m) (ha : Lies oa (glim 4294967296 m) w) (hb : Lies ob (glim 4294967296 n) w) :
    Calls Try.prog 50 #[.slice oa (glim 4294967296 m).length ca, .slice ob (glim 4294967296 n).length cb] w fun e w' => ∃ vq vr, e = .returned (.tuple #[vq, vr]) ∧ SlV vq (m / n) K w' ∧ SlV vr (m % n) K w' ∧ Below w.heap.size w w' := by
  have hn0 : 0 < n := by
    refine Nat.pos_of_ne_zero fun e => ?_
    subst e; rw [glim_zero] at hn2; simp at hn2
  have hll : (glim 4294967296 n).length ≤ (glim 4294967296 m).length := (glim_len (by omega) _ _).2 (Nat.lt_of_le_of_lt hnm (glim_lt (by omega) m))
  have ma := lm_glim (b := 4294967296) (by omega) m
  have mb := lm_glim (b := 4294967296) (by omega) n
  have va := gval_glim (b := 4294967296) (by omega) m
  have vb := gval_glim (b := 4294967296) (by omega) n
  have hmlt := glim_lt (b := 4294967296) (by omega) m
  have hnge := glim_ge (b := 4294967296) (by omega) hn0
  obtain ⟨x, hxt, hx0⟩ := glim_last (b := 4294967296) (by omega) n hn0
  generalize glim 4294967296 m = A at *
  generalize glim 4294967296 n = Bn at *
  obtain ⟨k2, hk2⟩ : ∃ k2, Bn.length = k2 + 2 := ⟨Bn.length - 2, by omega⟩
  rw [show Bn.length - 1 = k2 + 1 by omega] at hxt hnge
  obtain ⟨ab, rfl, cx⟩ := hb (k2 + 1) x hxt
  have hxm := mb.at hxt
  obtain ⟨M2, hM2⟩ : ∃ M2, Bn.length = M2 := ⟨_, rfl⟩
  obtain ⟨M1, hM1⟩ : ∃ M1, k2 + 1 = M1 := ⟨_, rfl⟩
  rw [hM1] at cx
  have e1 : (M2 : Int) - 1 = (M1 : Int) := by omega
  have b1 : (M1 : Int) < (M2 : Int) := by omega
  have hbook := hid (And.intro hM1 (And.intro hM2 hk2))
  obtain ⟨qn, hqn⟩ : ∃ qn, A.length - M2 + 1 = qn := ⟨_, rfl⟩
  have hAB : (A.length : Int) - (M2 : Int) + 1 = (qn : Int) := by omega
  have hmk := run_make_row' (P := Try.prog) 23 63 (.int .u32 0) 4 Try.underlying23 info32u rfl .i64 .i64 qn (by omega) (by omega)
  have hlB : M2 ≤ A.length := by omega
  have hLb : ∀ w', Below w.heap.size w w' → Lies (some ab) Bn w' := fun w' h => hb.below h
  have hLa : ∀ w', Below w.heap.size w w' → Lies oa A w' := fun w' h => ha.below h
  rw [hM2]
  clear hM1 hk2
  go_enter Try.func50, Try.ntmps50
  go_wp2_with fail
  refine (lz_w x _ (by omega) hxm).mono ?_
  rintro e w ⟨s, rfl, hs, hxs, rfl⟩
  go_wp2
  go_region_with (first
    | (go_at_call_of 58 oa
       refine (raised_v _ _ s A _ hs ma (by omega) (hLa _ (Below.refl _ _).drew)).mono ?_
       rintro e w2 ⟨g1, z1, L1, rfl, hz1, hl1, hg1, hg1', hO1, hm1, hv1, b1'⟩
       have b2 := below_of_drew b1')
    | (go_at_call_of 58 ab
       refine (raised_v2 _ _ s M2 Bn _ hM2 hs mb (by omega) (hLb _ b2)).mono ?_
       rintro e w3 ⟨g2, z2, L2, rfl, hz2, hl2, hg2, hg2', hO2, hm2, hv2, b3'⟩
       have b3 : Below w.heap.size w w3 := below_and b2 (Nat.le_refl _) b3'
       have hO1' := hO1.below' b3' hg1'
       have hMz : (M2 : Int) ≤ (z2 : Int) := by omega))
  obtain ⟨hP0, hP1⟩ := pow32 hs
  obtain ⟨hbM1, hbM2, hbk⟩ := hbook.out
  have hg1w : w.heap.size ≤ g1 := hg1
  have hs1 := b2.size
  have hs2 := b3'.size
  have hlfv : gval 4294967296 (L2.take M2) = n * 2 ^ s := by
    have := top_nought (k := k2 + 1) hs mb vb hxt (by omega) hxs (by omega) hv2
    rwa [show k2 + 1 + 1 = M2 by omega] at this
  have hmf : Lm 4294967296 (L2.take M2) := hm2.take M2
  have hlfl : (L2.take M2).length = M2 := by rw [List.length_take]; omega
  have hOf := hO2.take M2
  obtain ⟨lf, hlfe⟩ : ∃ lf, L2.take M2 = lf := ⟨_, rfl⟩
  rw [hlfe] at hlfv hmf hlfl hOf
  obtain ⟨v, hvd⟩ : ∃ v, n * 2 ^ s = v := ⟨_, rfl⟩
  rw [hvd] at hlfv
  have hnv : n ≤ v := by rw [← hvd]; exact Nat.le_mul_of_pos_right n (by omega)
  have hv0 : 0 < v := by omega
  have hvN : v < 4294967296 ^ M2 := by rw [← hlfv]; have := gval_lt hmf; rwa [hlfl] at this
  rw [va] at hv1
  have hR0 : gval 4294967296 (L1.drop qn) < v := by
    rw [← hvd]; exact start_rest (k := M1) (a := A.length) (by omega) hmlt (by rw [← hbM1]; exact hnge) (by omega) (by omega) hv1
  obtain ⟨N2, hN2⟩ : ∃ N2, lf[k2]? = some N2 := ⟨lf[k2]'(by omega), by simp⟩
  obtain ⟨T, hT⟩ : ∃ T, lf[M1]? = some T := ⟨lf[M1]'(by omega), by simp⟩
  have hN2m := hmf.at hN2
  have hTm := hmf.at hT
  have hvtop : v = gval 4294967296 (lf.take k2) + 4294967296 ^ k2 * (N2 + 4294967296 * T) := by
    rw [← hlfv]; exact gval_top2 hN2 (by rw [hbM1]; exact hT) (by omega)
  have hv'k : gval 4294967296 (lf.take k2) < 4294967296 ^ k2 := by
    have := gval_lt (hmf.take k2); rwa [List.length_take, Nat.min_eq_left (by omega)] at this
  have hT0 : 0 < T := by
    refine Nat.pos_of_ne_zero fun e => ?_
    have h1 := gval_take_succ 4294967296 hT
    rw [List.take_of_length_le (by omega), hlfv, e] at h1
    have h2 := gval_lt (hmf.take M1)
    rw [List.length_take, Nat.min_eq_left (by omega)] at h2
    rw [hbM1] at hnge
    omega
  obtain ⟨M3, hM3⟩ : ∃ M3, M2 + 1 = M3 := ⟨_, rfl⟩
  have hOq := Own.made qn w3
  have hB4 : Below w.heap.size w (w3.alloc (.cells (madeCells #[.int .u32 0] qn) 63)) := b3.alloc b3.size _
  have hO14 := hO1'.below' ((Below.refl w3.heap.size w3).alloc (Nat.le_refl _) (.cells (madeCells #[.int .u32 0] qn) 63)) (by omega)
  have hOf4 := hOf.below' ((Below.refl w3.heap.size w3).alloc (Nat.le_refl _) (.cells (madeCells #[.int .u32 0] qn) 63)) (by omega)
  have hz4 : w3.heap.size < (w3.alloc (.cells (madeCells #[.int .u32 0] qn) 63)).heap.size := by simp
  have hAl : L1.length = A.length + 1 := by omega
  have hqn' := hid hqn
  have hlq : (L1.drop qn).length = M2 := by rw [List.length_drop]; omega
  clear hqn hLa hLb ha hb
  go_wp2
  generalize (w3.alloc (.cells (madeCells #[.int .u32 0] qn) 63)) = W4 at *
  clear hmk hAB cx e1
  go_loopw [11] (fun iv wr => ∃ (k : Nat) (L Q : List Nat), iv = .int .i64 ((k : Int) - 1) ∧ k ≤ qn ∧ Own g1 L wr ∧ L.length = A.length + 1 ∧ Lm 4294967296 L ∧ Own w3.heap.size Q wr ∧ Q.length = qn ∧ Lm 4294967296 Q ∧ Own g2 lf wr ∧ Below w.heap.size w wr ∧ w3.heap.size < wr.heap.size ∧ Hid (L.take k = L1.take k) ∧ Hid (gval 4294967296 ((L.drop k).take M2) < v ∧ gval 4294967296 (Q.drop k) * v + gval 4294967296 ((L.drop k).take M2) = gval 4294967296 (L1.drop k))) (fun iv _ => (intOf iv + 1).toNat)
  case atStart =>
    refine ⟨qn, L1, _, by go_num, Nat.le_refl _, hO14, hAl, hm1, hOq, by simp, Lm.replicate (by omega) _, hOf4, hB4, hz4, hid rfl, hid ?_⟩
    have hdz : (List.replicate qn 0).drop qn = [] := by simp
    rw [List.take_of_length_le (by omega : (L1.drop qn).length ≤ M2), hdz]
    exact ⟨hR0, by simp [gval]⟩
  case round =>
    obtain ⟨k, L, Q, rfl, hk, hL, hLl, hLm, hQ, hQl, hQm, hFw, hbw, hzw, hTk, hVk⟩ := hrel
    clear hOq hO14 hOf4 hB4 hz4 hO1 hO2 hOf hO1' b2 b3 b3' hR0 hlq
    by_cases h0 : k = 0
    · subst h0
      obtain ⟨hV1, hV2⟩ := hVk.out
      simp only [List.drop_zero] at hV1 hV2
      rw [hv1] at hV2
      have hQv : gval 4294967296 Q = m / n ∧ gval 4294967296 (L.take M2) / 2 ^ s = m % n := by
        have hmn := Nat.div_add_mod m n
        have hrl := Nat.mod_lt m hn0
        have hq1 : gval 4294967296 Q = m * 2 ^ s / v := by
          rw [← hV2, Nat.add_comm, Nat.add_mul_div_right _ _ hv0, Nat.div_eq_of_lt hV1, Nat.zero_add]
        have hq2 : gval 4294967296 (L.take M2) = m * 2 ^ s % v := by
          rw [← hV2, Nat.add_comm, Nat.add_mul_mod_self_right, Nat.mod_eq_of_lt hV1]
        rw [hq1, hq2, ← hvd]
        exact ⟨Nat.mul_div_mul_right _ _ (by omega), by rw [Nat.mul_mod_mul_right, Nat.mul_div_cancel _ (by omega)]⟩
      have y1 : (M2 : Int) ≤ ((A.length + 1 : Nat) : Int) := by omega
      have hLt := hL.take M2
      have hLtm := hLm.take M2
      have hLtl : (L.take M2).length = M2 := by rw [List.length_take]; omega
      obtain ⟨hq1, hq2⟩ := hQv
      have hq1' := hid hq1
      have hq2' := hid hq2
      clear hq1 hq2 hV1 hV2 hVk hTk hM3
      go_wp2_with fail
      refine (lower_v g1 _ s M2 (L.take M2) _ hLtl hs hLtm (by omega) hLt).mono ?_
      rintro e wz ⟨⟨rv, rfl⟩, Lz, hOz, hLzm, hLzv, hLzl, hoz⟩
      have hQz := hQ.only hoz (by omega)
      go_wp2
      go_ret2
      have hqv := hqn'.out
      refine ⟨_, _, rfl, ⟨_, Q, qn, qn, rfl, hQl.symm, hQz.lies, by omega, hQm, hq1'.out, by omega⟩, ⟨_, Lz, A.length + 1, M2, rfl, hLzl.symm, hOz.lies, by omega, hLzm, by rw [hLzv]; exact hq2'.out, by omega⟩, hbw.trans (hoz.below hg1w)⟩
    · obtain ⟨j, rfl⟩ : ∃ j, k = j + 1 := ⟨k - 1, by omega⟩
      have hqv := hqn'.out
      have ez : (((j + 1 : Nat) : Int) - 1) = (j : Int) := by omega
      obtain ⟨jm, hjm⟩ : ∃ jm, j + M2 = jm := ⟨_, rfl⟩
      obtain ⟨jn, hjn⟩ : ∃ jn, jm + 1 = jn := ⟨_, rfl⟩
      have z1 : (j : Int) + (M2 : Int) = (jm : Int) := by omega
      have z2 : (jm : Int) + 1 = (jn : Int) := by omega
      have z3 : (jn : Int) ≤ ((A.length + 1 : Nat) : Int) := by omega
      have z4 : (j : Int) ≤ (jn : Int) := by omega
      have z5 : ¬ A.length + 1 = j := by omega
      have z6 : jn - j = M3 := by omega
      have hj' := hid (And.intro hjm hjn)
      clear hjm hjn
      rw [ez]
      have hg12 : g2 ≠ g1 := by omega
      obtain ⟨x0, hx0'⟩ : ∃ x0, L[j]? = some x0 := ⟨L[j]'(by omega), by simp⟩
      obtain ⟨xa, hxa⟩ : ∃ xa, L[j + k2]? = some xa := ⟨L[j + k2]'(by omega), by simp⟩
      obtain ⟨ya, hya⟩ : ∃ ya, L[j + M1]? = some ya := ⟨L[j + M1]'(by omega), by simp⟩
      obtain ⟨zb, hzb⟩ : ∃ zb, L[j + M2]? = some zb := ⟨L[j + M2]'(by omega), by simp⟩
      obtain ⟨u, hu⟩ : ∃ u, gval 4294967296 ((L.drop j).take M3) = u := ⟨_, rfl⟩
      obtain ⟨hRv, hQv⟩ := hVk.out
      have hust := part_step (M := M2) hx0'
      rw [hM3, hu] at hust
      have hx0m := hLm.at hx0'
      have huv : u < 4294967296 * v := by omega
      have hDl : ((L.drop j).take M3).length = k2 + 3 := by rw [List.length_take, List.length_drop]; omega
      have hu3 : u = gval 4294967296 (((L.drop j).take M3).take k2) + 4294967296 ^ k2 * (xa + 4294967296 * (ya + 4294967296 * zb)) := by
        rw [← hu]
        refine gval_top3 ?_ ?_ ?_ hDl
        · rw [List.getElem?_take_of_lt (by omega), List.getElem?_drop]; exact hxa
        · rw [List.getElem?_take_of_lt (by omega), List.getElem?_drop, show j + (k2 + 1) = j + M1 by omega]; exact hya
        · rw [List.getElem?_take_of_lt (by omega), List.getElem?_drop, show j + (k2 + 2) = j + M2 by omega]; exact hzb
      have hu'k : gval 4294967296 (((L.drop j).take M3).take k2) < 4294967296 ^ k2 := by
        have := gval_lt (((hLm.drop j).take M3).take k2)
        rwa [List.length_take, Nat.min_eq_left (by omega)] at this
      have hzT : zb ≤ T := top_le rfl hu3 hvtop hv'k hN2m huv
      have hqB : u / v < 4294967296 := (Nat.div_lt_iff_lt_mul hv0).2 huv
      have hqV := quo_top hu3 hvtop hu'k (Nat.div_mul_le_self u v)
      have hulow : u = gval 4294967296 ((L.drop j).take M2) + 4294967296 ^ M2 * zb := by
        have := gval_take_succ 4294967296 (l := L.drop j) (i := M2) (x := zb) (by rw [List.getElem?_drop]; exact hzb)
        rw [hM3, hu] at this; exact this
      have hcu := hid (And.intro hust (And.intro hulow (And.intro hRv hQv)))
      have hu3' := hid hu3
      have hxL1 : Hid (L1[j]? = some x0) := hid (by
        have := congrArg (·[j]?) hTk.out
        simp only [List.getElem?_take_of_lt (show j < j + 1 by omega)] at this
        rw [← this, hx0'])
      have gcx := hL.1 _ _ hxa
      have gcy := hL.1 _ _ hya
      have gcz := hL.1 _ _ hzb
      have gcN : wr.cell? ((⟨g2, 0, none⟩ : Addr).add k2) = some (.int .u32 (N2 : Int)) := by rw [addr_add, Nat.zero_add]; exact hFw.1 _ _ hN2
      have gcT : wr.cell? ((⟨g2, 0, none⟩ : Addr).add M1) = some (.int .u32 (T : Int)) := by rw [addr_add, Nat.zero_add]; exact hFw.1 _ _ hT
      clear hust hulow hRv hQv hu3 hu hx0'
      go_wp2_with fail
      refine (guess_w g1 j _ _ k2 M1 M2 M3 xa ya zb N2 T ⟨g2, 0, none⟩ wr (by omega) (by omega) (by omega) (by omega) (by omega) (hLm.at hxa) (hLm.at hya) (hLm.at hzb) hN2m hTm hT0 gcx gcy gcz gcN gcT (u / v) hqB hqV hzT).mono ?_
      rintro e wg ⟨t, rfl, hqt, htB, htV, hdr⟩
      have htq : t ≤ u / v + 1 := guess_top hu3'.out hvtop hv'k htV (by omega) hv0
      have hLg := hL.dr hdr
      have hQg := hQ.dr hdr
      have hFg := hFw.dr hdr
      have hbg := hdr.below hbw
      have hsg := hdr.size
      clear gcx gcy gcz gcN gcT hxa hya hL hQ hFw hbw hdr hqV htV
      go_wp2_with fail
      refine (takeTimes_v g1 j _ _ t M2 M3 (some ⟨g2, 0, none⟩) L lf wg hlfl (by omega) htB hLm hmf (by omega) (by omega) (by omega) hLg (fun w' ho => (hFg.only ho hg12).lies)).mono ?_
      rintro e wt ⟨L', c, p, rfl, hp, hO', hl', hm', hout', hval', hon'⟩
      rw [hzb] at hp
      injection hp with hp
      subst hp
      have hQt := hQg.only hon' (by omega)
      have hFt := hFg.only hon' hg12
      have hbt : Below w.heap.size w wt := hbg.trans (hon'.below (by omega))
      have hst := hon'.2.1
      have hlow' : gval 4294967296 ((L'.drop j).take M2) < 4294967296 ^ M2 := by
        have := gval_lt ((hm'.drop j).take M2)
        rwa [List.length_take, List.length_drop, Nat.min_eq_left (by omega)] at this
      rw [hlfv] at hval'
      have hval2 := hid hval'
      have hout2 := hid hout'
      obtain ⟨qold, hqold⟩ : ∃ qold, Q[j]? = some qold := ⟨Q[j]'(by omega), by simp⟩
      have hjq : (j : Int) < (qn : Int) := by omega
      clear hval' hout' hLg hQg hFg hbg hzb
      by_cases hpc : zb < c
      · have hd : decide (zb < c) = true := by simp [hpc]
        rw [hd]
        clear hd
        have hdb := fun (low2 c2 : Nat) (h1 : low2 < 4294967296 ^ M2) (h2 : low2 + 4294967296 ^ M2 * c2 = gval 4294967296 ((L'.drop j).take M2) + v) => digit_back hcu.out.2.1 hlow' h1 hvN hv0 hval2.out htq hpc h2
        have hdb' := hid hdb
        clear hdb
        go_wp2_with fail
        refine (giveBack_v g1 j _ _ M2 M3 (some ⟨g2, 0, none⟩) L' lf wt hlfl (by omega) hm' hmf (by omega) (by omega) (by omega) hO' (fun w' ho => (hFt.only ho hg12).lies)).mono ?_
        rintro e wb ⟨⟨rv, rfl⟩, L2b, hOb, hlb, hmb, houtb, ⟨c2, hvalb⟩, honb⟩
        rw [hlfv] at hvalb
        have hlow2 : gval 4294967296 ((L2b.drop j).take M2) < 4294967296 ^ M2 := by
          have := gval_lt ((hmb.drop j).take M2)
          rwa [List.length_take, List.length_drop, Nat.min_eq_left (by omega)] at this
        obtain ⟨ht0, hdb1, hdb2⟩ := hdb'.out _ c2 hlow2 hvalb
        have hdb3 := hid (And.intro hdb1 hdb2)
        have houtb' := hid houtb
        have hQb := hQt.only honb (by omega)
        have hFb := hFt.only honb hg12
        have hbb : Below w.heap.size w wb := hbt.trans (honb.below hg1w)
        have hsb := honb.2.1
        have cq := hQb.1 j qold hqold
        have fq := hQb.2 j
        obtain ⟨t1, ht1⟩ : ∃ t1, t - 1 = t1 := ⟨_, rfl⟩
        have w0 : IntKind.u64.wrap ((t : Int) - 1) = (t1 : Int) := by rw [IntKind.wrap_u64]; omega
        have w1 : IntKind.u32.wrap (t1 : Int) = (t1 : Int) := by rw [IntKind.wrap_u32]; omega
        have ht1B : t1 < 4294967296 := by omega
        rw [ht1] at hdb3
        clear hqold hdb1 hdb2 hvalb houtb hdb' ht1 hQt hFt
        go_wp2
        go_roundw
        case rel =>
          obtain ⟨hdf1, hdf2⟩ := hdb3.out
          have hoq : Only w3.heap.size wb (wb.setCell ⟨w3.heap.size, j, none⟩ (.int .u32 (t1 : Int))) := (Only.refl _ _).setCell _ _
          refine ⟨j, L2b, Q.set j t1, by go_num, by omega, hOb.only hoq (by omega), by omega, hmb, hQb.set _ (by omega), by simp [hQl], hQm.set _ _ ht1B, hFb.only hoq (by omega), hbb.trans (hoq.below (by omega)), by have := hoq.2.1; omega, hid ?_, hid ⟨hdf2, ?_⟩⟩
          · refine List.ext_getElem? fun i => ?_
            have := congrArg (·[i]?) hTk.out
            by_cases hi : i < j
            · simp only [List.getElem?_take_of_lt hi]
              simp only [List.getElem?_take_of_lt (show i < j + 1 by omega)] at this
              rw [houtb'.out i (.inl hi), hout2.out i (.inl hi), this]
            · rw [List.getElem?_eq_none (by rw [List.length_take]; omega), List.getElem?_eq_none (by rw [List.length_take]; omega)]
          · rw [gval_drop_set _ _ (by omega), gval_drop_at _ hxL1.out]
            exact shrink_step (by rw [hdf1]; have := hcu.out.1; omega) hcu.out.2.2.2
        case measure => simp [intOf]
      · have hd : decide (zb < c) = false := by simp [hpc]
        rw [hd]
        clear hd
        have hdf := digit_fit hcu.out.2.1 hlow' hvN hv0 hval2.out hqt htq hpc
        have hdf' := hid hdf
        clear hdf
        have cq := hQt.1 j qold hqold
        have fq := hQt.2 j
        have w1 : IntKind.u32.wrap (t : Int) = (t : Int) := by rw [IntKind.wrap_u32]; omega
        clear hqold
        go_wp2
        go_roundw
        case rel =>
          obtain ⟨hdf1, hdf2⟩ := hdf'.out
          have hoq : Only w3.heap.size wt (wt.setCell ⟨w3.heap.size, j, none⟩ (.int .u32 (t : Int))) := (Only.refl _ _).setCell _ _
          refine ⟨j, L', Q.set j t, by go_num, by omega, hO'.only hoq (by omega), by omega, hm', hQt.set _ (by omega), by simp [hQl], hQm.set _ _ htB, hFt.only hoq (by omega), hbt.trans (hoq.below (by omega)), by have := hoq.2.1; omega, hid ?_, hid ⟨hdf2, ?_⟩⟩
          · refine List.ext_getElem? fun i => ?_
            have := congrArg (·[i]?) hTk.out
            by_cases hi : i < j
            · simp only [List.getElem?_take_of_lt hi]
              simp only [List.getElem?_take_of_lt (show i < j + 1 by omega)] at this
              rw [hout2.out i (.inl hi), this]
            · rw [List.getElem?_eq_none (by rw [List.length_take]; omega), List.getElem?_eq_none (by rw [List.length_take]; omega)]
          · rw [gval_drop_set _ _ (by omega), gval_drop_at _ hxL1.out]
            exact shrink_step (by rw [hdf1]; have := hcu.out.1; omega) hcu.out.2.2.2
        case measure => simp [intOf]
end Go.Proofs.Ytccogdlmlegmbaa
