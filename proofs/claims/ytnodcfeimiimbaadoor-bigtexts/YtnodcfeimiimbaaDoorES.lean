/-
  ER, ES.
-/
import Derived.Test.YtnodcfeimiimbaaDoorEO

/- EP, EQ, ER. -/
namespace Go.Proofs.YtnodcfeimiimbaaDoor
open Go.RowKit Go.Shelf
set_option linter.unusedVariables false
set_option linter.unusedSimpArgs false

theorem sgn_scale {neg : Bool} {v : Int} (h : neg = sgB v) (k : Nat) : v * (k : Int) = sgn neg (v.natAbs * k) := by
  have h1 := sgn_of h
  unfold sgn at h1 ⊢
  rw [Int.natCast_mul]
  cases neg
  · simp at h1 ⊢; rw [h1]
  · simp at h1 ⊢; rw [← Int.neg_mul, h1]
theorem mag_len_two (n : Nat) : (mag (2 ^ n)).length ≤ n + 1 := by
  induction n with
  | zero => rw [Nat.pow_zero]; have := mag_len_one (n := 1) (by decide); omega
  | succ n ih =>
    rw [Nat.pow_succ, Nat.mul_two]
    have h1 : 2 ^ n + 2 ^ n = 2 ^ (n + 1) := by rw [Nat.pow_succ, Nat.mul_two]
    rw [h1]
    have h2 := mag_len_le (n := 2 ^ (n + 1)) (k := n + 2) (by
      rw [Int.natCast_pow]
      have e : ((2 : Nat) : Int) ^ (n + 1) ≤ (18446744073709551616 : Int) ^ (n + 1) := by
        rw [show (18446744073709551616 : Int) = 2 ^ 64 from rfl, ← Int.pow_mul]
        exact pow_mono' (by decide) (by omega)
      have e2 : (18446744073709551616 : Int) ^ (n + 2) = 18446744073709551616 ^ (n + 1) * 18446744073709551616 := Int.pow_succ _ _
      have e3 : (0 : Int) < 18446744073709551616 ^ (n + 1) := Int.pow_pos (by decide)
      rw [e2]; omega)
    omega

end Go.Proofs.YtnodcfeimiimbaaDoor

/- Walks: lowBitsSet. -/
namespace Go.Proofs.YtnodcfeimiimbaaDoor
open Go.RowKit Go.Shelf
set_option linter.unusedVariables false
set_option linter.unusedSimpArgs false

theorem low_split {a j : Nat} (hj : j < (mag a).length) : ∃ c x e : Nat, V 18446744073709551616 (mag a) 0 j = (c : Int) ∧ c < 18446744073709551616 ^ j ∧ dig (mag a) j = (x : Int) ∧ x < 18446744073709551616 ∧ a = c + 18446744073709551616 ^ j * (x + 18446744073709551616 * e) := by
  have hv := mag_val a
  obtain ⟨m, hm⟩ : ∃ m, (mag a).length = j + (m + 1) := ⟨(mag a).length - j - 1, by omega⟩
  rw [← V_all 18446744073709551616 rfl, hm, V_split, Nat.zero_add, V_cons] at hv
  have h1 := V_nonneg (q := 18446744073709551616) (by decide) (mag_wd a) 0 j
  have h2 := V_lt (q := 18446744073709551616) (by decide) (mag_wd a) 0 j
  have h3 := (mag_wd a).dig (by decide) j
  have h4 := V_nonneg (q := 18446744073709551616) (by decide) (mag_wd a) (j + 1) m
  obtain ⟨c, hc⟩ := Int.eq_ofNat_of_zero_le h1
  obtain ⟨x, hx⟩ := Int.eq_ofNat_of_zero_le h3.1
  obtain ⟨e, he⟩ := Int.eq_ofNat_of_zero_le h4
  rw [hc, hx, he] at hv
  rw [hc] at h2
  rw [hx] at h3
  refine ⟨c, x, e, hc, ?_, hx, by omega, ?_⟩
  · have : ((18446744073709551616 ^ j : Nat) : Int) = (18446744073709551616 : Int) ^ j := by rw [Int.natCast_pow]; rfl
    omega
  · have : (a : Int) = ((c + 18446744073709551616 ^ j * (x + 18446744073709551616 * e) : Nat) : Int) := by
      rw [← hv, Int.natCast_add, Int.natCast_mul, Int.natCast_pow, Int.natCast_add, Int.natCast_mul]; rfl
    exact Int.ofNat.inj this
theorem pow_parts (n : Nat) : 2 ^ n = 18446744073709551616 ^ (n / 64) * 2 ^ (n % 64) := by
  rw [show 18446744073709551616 = 2 ^ 64 from rfl, ← Nat.pow_mul, ← Nat.pow_add]
  congr 1; omega
theorem low_b {a n t : Nat} (hj : n / 64 < (mag a).length) (ht : t < n / 64) (h : dig (mag a) t ≠ 0) : a % 2 ^ n ≠ 0 := by
  intro h0
  obtain ⟨c, x, e, hc, hc1, hx, hx1, ha⟩ := low_split hj
  have hd : 18446744073709551616 ^ (n / 64) ∣ a := Nat.dvd_trans ⟨2 ^ (n % 64), pow_parts n⟩ (Nat.dvd_of_mod_eq_zero h0)
  have hc0 : c = 0 := by
    rw [ha] at hd
    have := (Nat.dvd_add_iff_left (Nat.dvd_mul_right (18446744073709551616 ^ (n / 64)) (x + 18446744073709551616 * e))).2 hd
    exact Nat.eq_zero_of_dvd_of_lt this hc1
  subst hc0
  obtain ⟨m, hm⟩ : ∃ m, n / 64 = t + (m + 1) := ⟨n / 64 - t - 1, by omega⟩
  rw [hm, V_split, Nat.zero_add, V_cons] at hc
  have h1 := V_nonneg (q := 18446744073709551616) (by decide) (mag_wd a) 0 t
  have h3 := (mag_wd a).dig (by decide) t
  have h4 := V_nonneg (q := 18446744073709551616) (by decide) (mag_wd a) (t + 1) m
  have h5 : (0 : Int) < 18446744073709551616 ^ t := Int.pow_pos (by decide)
  have h6 : 0 < (18446744073709551616 : Int) ^ t * (dig (mag a) t + 18446744073709551616 * V 18446744073709551616 (mag a) (t + 1) m) := Int.mul_pos h5 (by omega)
  omega
theorem low_c {a n : Nat} {z : Int} (hj : n / 64 < (mag a).length) (h : ∀ t, t < n / 64 → dig (mag a) t = 0) (hz : dig (mag a) (n / 64) = z) : (z * 2 ^ (64 - n % 64)) % 18446744073709551616 = ((18446744073709551616 * ((a % 2 ^ n) / 18446744073709551616 ^ (n / 64)) / 2 ^ (n % 64) : Nat) : Int) ∧ (a % 2 ^ n ≠ 0 ↔ (z * 2 ^ (64 - n % 64)) % 18446744073709551616 ≠ 0) := by
  obtain ⟨c, x, e, hc, hc1, hx, hx1, ha⟩ := low_split hj
  rw [V_zeros (fun i hi => by rw [Nat.zero_add]; exact h i hi)] at hc
  have hc0 : c = 0 := by omega
  subst hc0
  rw [← hz, hx]
  have hs : n % 64 < 64 := Nat.mod_lt _ (by decide)
  obtain ⟨s, hse⟩ : ∃ s, n % 64 = s := ⟨_, rfl⟩
  have hpp := pow_parts n
  rw [hse] at hpp hs ⊢
  obtain ⟨Q, hQ⟩ : ∃ Q, 18446744073709551616 ^ (n / 64) = Q := ⟨_, rfl⟩
  have hQ0 : 0 < Q := by rw [← hQ]; exact Nat.pow_pos (by decide)
  rw [hQ] at hpp ha ⊢
  have hq : 18446744073709551616 = 2 ^ s * 2 ^ (64 - s) := by rw [← Nat.pow_add, show s + (64 - s) = 64 by omega]
  obtain ⟨P, hP⟩ : ∃ P, 2 ^ s = P := ⟨_, rfl⟩
  obtain ⟨R, hR⟩ : ∃ R, 2 ^ (64 - s) = R := ⟨_, rfl⟩
  have hP0 : 0 < P := by rw [← hP]; exact Nat.pow_pos (by decide)
  have hR0 : 0 < R := by rw [← hR]; exact Nat.pow_pos (by decide)
  have hRi : (2 : Int) ^ (64 - s) = (R : Int) := by rw [← hR, Int.natCast_pow]; rfl
  rw [hP, hR] at hq
  rw [hP] at hpp ⊢
  have e1 : a % 2 ^ n = Q * (x % P) := by
    rw [hpp, ha, Nat.zero_add, Nat.mul_mod_mul_left]
    congr 1
    rw [hq, Nat.mul_assoc, Nat.add_mul_mod_self_left]
  have e2 : (x * R) % (P * R) = x % P * R := Nat.mul_mod_mul_right _ _ _
  rw [e1, hRi]
  have e3 : ((x : Int) * (R : Int)) % 18446744073709551616 = ((x % P * R : Nat) : Int) := by
    rw [← e2, ← hq, Int.natCast_emod, Int.natCast_mul]; rfl
  rw [e3]
  constructor
  · congr 1
    rw [Nat.mul_div_cancel_left _ hQ0, hq, Nat.mul_assoc, Nat.mul_div_cancel_left _ hP0, Nat.mul_comm]
  · have k1 : x % P * R ≠ 0 ↔ x % P ≠ 0 := by
      constructor
      · intro h h'; exact h (by rw [h', Nat.zero_mul])
      · intro h; exact Nat.ne_of_gt (Nat.mul_pos (Nat.pos_of_ne_zero h) hR0)
    have k2 : Q * (x % P) ≠ 0 ↔ x % P ≠ 0 := by
      constructor
      · intro h h'; exact h (by rw [h', Nat.mul_zero])
      · intro h; exact Nat.ne_of_gt (Nat.mul_pos hQ0 (Nat.pos_of_ne_zero h))
    rw [k2, ← k1]; omega
theorem low_a {a n l : Nat} (hl : l = (mag a).length) (hj : l ≤ n / 64) : decide (a % 2 ^ n ≠ 0) = decide (0 < l) := by
  have h1 := mag_len_lt hl
  have h2 : (18446744073709551616 : Int) ^ l ≤ ((2 ^ n : Nat) : Int) := by
    rw [show (18446744073709551616 : Int) = 2 ^ 64 from rfl, ← Int.pow_mul, Int.natCast_pow]
    exact pow_mono' (by decide) (by omega)
  rw [Nat.mod_eq_of_lt (by omega)]
  have h3 : 0 < l ↔ 0 < a := by rw [hl]; exact mag_len_pos
  by_cases h4 : 0 < a
  · rw [decide_eq_true (h3.2 h4), decide_eq_true (by omega)]
  · rw [decide_eq_false (fun h => h4 (h3.1 h)), decide_eq_false (by omega)]
end Go.Proofs.YtnodcfeimiimbaaDoor

/- Walks: lowBitsSet. -/
namespace Go.Proofs.YtnodcfeimiimbaaDoor
open Go.RowKit Go.Shelf
set_option linter.unusedVariables false
set_option linter.unusedSimpArgs false

theorem right_math {neg : Bool} {v : Int} (h : neg = sgB v) (p : Nat) (hp : 0 < p) : v / (p : Int) = sgn neg (if neg = true ∧ v.natAbs % p ≠ 0 then v.natAbs / p + 1 else v.natAbs / p) := by
  have h1 := sgn_of h
  obtain ⟨a, ha⟩ : ∃ a, v.natAbs = a := ⟨_, rfl⟩
  rw [ha] at h1 ⊢
  unfold sgn at h1 ⊢
  have hd := Nat.div_add_mod a p
  have hm := Nat.mod_lt a hp
  generalize a / p = q at *
  generalize a % p = r at *
  have hd' : (p : Int) * (q : Int) + (r : Int) = (a : Int) := by rw [← hd, Int.natCast_add, Int.natCast_mul]
  cases neg
  · simp at h1 ⊢
    rw [← h1, ← hd', Int.mul_add_ediv_left _ _ (by omega), Int.ediv_eq_zero_of_lt (by omega) (by omega), Int.add_zero]
  · simp at h1 ⊢
    rw [← h1, ← hd']
    by_cases hr : r = 0
    · subst hr
      simp
      rw [← Int.mul_neg, Int.mul_ediv_cancel_left _ (by omega)]
    · rw [if_neg hr]
      rw [show -((p : Int) * (q : Int) + (r : Int)) = (p : Int) * (-((q : Int) + 1)) + ((p : Int) - (r : Int)) by grind, Int.mul_add_ediv_left _ _ (by omega), Int.ediv_eq_zero_of_lt (by omega) (by omega), Int.add_zero]
      omega

end Go.Proofs.YtnodcfeimiimbaaDoor

/- Walks: Divide. -/
namespace Go.Proofs.YtnodcfeimiimbaaDoor
open Go.RowKit Go.Shelf
set_option linter.unusedVariables false
set_option linter.unusedSimpArgs false

/-- quotient, rounded down, and rest -/
def FloorOf (v u q r : Int) : Prop := v = u * q + r ∧ (0 < u ∧ 0 ≤ r ∧ r < u ∨ u < 0 ∧ u < r ∧ r ≤ 0)
theorem FloorOf.pos {v u q r : Int} (h : FloorOf v u q r) (hu : 0 < u) : q = v / u ∧ r = v % u := by
  obtain ⟨h1, h2 | h2⟩ := h
  · have h3 : q = v / u := by
      rw [h1, Int.mul_add_ediv_left _ _ (by omega), Int.ediv_eq_zero_of_lt h2.2.1 h2.2.2, Int.add_zero]
    refine ⟨h3, ?_⟩
    have := Int.mul_ediv_add_emod v u
    rw [← h3] at this; omega
  · omega
theorem floor_math {na nb : Bool} {v u : Int} (hv : na = sgB v) (hu : nb = sgB u) (h0 : u ≠ 0) :
    ((na != nb) = false ∨ v.natAbs % u.natAbs = 0 → FloorOf v u (sgn (na != nb) (v.natAbs / u.natAbs)) (sgn nb (v.natAbs % u.natAbs))) ∧
    ((na != nb) = true → v.natAbs % u.natAbs ≠ 0 → FloorOf v u (sgn (na != nb) (v.natAbs / u.natAbs + 1)) (sgn nb (u.natAbs - v.natAbs % u.natAbs))) := by
  have h1 := sgn_of hv
  have h2 := sgn_of hu
  obtain ⟨a, ha⟩ : ∃ a, v.natAbs = a := ⟨_, rfl⟩
  obtain ⟨b, hb⟩ : ∃ b, u.natAbs = b := ⟨_, rfl⟩
  have hb0 : 0 < b := by omega
  rw [ha] at h1 ⊢; rw [hb] at h2 ⊢
  have hd := Nat.div_add_mod a b
  have hm := Nat.mod_lt a hb0
  generalize a / b = q at *
  generalize a % b = r at *
  have hd' : (a : Int) = (b : Int) * (q : Int) + (r : Int) := by rw [← hd, Int.natCast_add, Int.natCast_mul]
  unfold FloorOf
  unfold sgn at h1 h2 ⊢
  cases na <;> cases nb <;> simp at h1 h2 ⊢ <;> subst h1 <;> subst h2
  · exact ⟨hd', Or.inl (by omega)⟩
  · refine ⟨fun hr => ?_, fun hr => ?_⟩
    · subst hr; refine ⟨by rw [hd']; grind, Or.inr (by omega)⟩
    · refine ⟨?_, Or.inr (by omega)⟩
      rw [hd', show ((b - r : Nat) : Int) = (b : Int) - (r : Int) by omega]; grind
  · refine ⟨fun hr => ?_, fun hr => ?_⟩
    · subst hr; refine ⟨by rw [hd']; grind, Or.inl (by omega)⟩
    · refine ⟨?_, Or.inl (by omega)⟩
      rw [hd', show ((b - r : Nat) : Int) = (b : Int) - (r : Int) by omega]; grind
  · exact ⟨by rw [hd']; grind, Or.inr (by omega)⟩

/-- two numbers and no error -/
def TwoIntErr (w w' : World) (e : Ending) (x y : Int) : Prop :=
  ∃ n1 ao1 l1 c1 n2 ao2 l2 c2, e = .returned (.tuple #[.agg #[.bool n1, .slice ao1 l1 c1], .agg #[.bool n2, .slice ao2 l2 c2], .int .i64 0]) ∧ n1 = sgB x ∧ Own w.heap.size w' .u64 54 ao1 l1 c1 (mag x.natAbs) ∧ n2 = sgB y ∧ Own w.heap.size w' .u64 54 ao2 l2 c2 (mag y.natAbs) ∧ Below w.heap.size w w'

/-- likewise, in blocks of their own -/
def TwoIntErrP (w w' : World) (e : Ending) (x y : Int) : Prop :=
  ∃ n1 ao1 l1 c1 n2 ao2 l2 c2, e = .returned (.tuple #[.agg #[.bool n1, .slice ao1 l1 c1], .agg #[.bool n2, .slice ao2 l2 c2], .int .i64 0]) ∧ n1 = sgB x ∧ Own w.heap.size w' .u64 54 ao1 l1 c1 (mag x.natAbs) ∧ n2 = sgB y ∧ Own w.heap.size w' .u64 54 ao2 l2 c2 (mag y.natAbs) ∧ Below w.heap.size w w' ∧ Parted ao1 ao2
theorem TwoIntErrP.less {w w' : World} {e : Ending} {x y : Int} (h : TwoIntErrP w w' e x y) : TwoIntErr w w' e x y := by
  obtain ⟨n1, ao1, l1, c1, n2, ao2, l2, c2, h1, h2, h3, h4, h5, h6, _⟩ := h
  exact ⟨n1, ao1, l1, c1, n2, ao2, l2, c2, h1, h2, h3, h4, h5, h6⟩

/-- two numbers handed in, two results to come -/
structure Two4 (w W : World) (na nb : Bool) (ao bo : Option Addr) (la ca lb cb : Nat) : Prop where
  eq : W = (((w.alloc (.cells #[.bool na, .slice ao la ca] 30)).alloc (.cells #[.bool nb, .slice bo lb cb] 30)).alloc (.cells #[.bool false, .slice none 0 0] 30)).alloc (.cells #[.bool false, .slice none 0 0] 30)
  below : Below w.heap.size w W
  size : W.heap.size = w.heap.size + 4
  a : Boxed W w.heap.size na ao la ca
  b : Boxed W (w.heap.size + 1) nb bo lb cb
  r : Fresh W (w.heap.size + 1 + 1)
  r2 : Fresh W (w.heap.size + 1 + 1 + 1)
theorem Two4.mk' (w : World) (na nb : Bool) (ao bo : Option Addr) (la ca lb cb : Nat) : ∃ W, Two4 w W na nb ao bo la ca lb cb := by
  obtain ⟨X, hX⟩ := Two3.mk' w na nb ao bo la ca lb cb
  have hs := hX.size
  have h1 : Below X.heap.size X (X.alloc (.cells #[.bool false, .slice none 0 0] 30)) := (Below.refl _ _).alloc (Nat.le_refl _) _
  have h2 := Fresh.new X
  rw [hs] at h2
  exact ⟨X.alloc (.cells #[.bool false, .slice none 0 0] 30), by rw [hX.eq], bnext hX.below h1, by simp [hs], hX.a.later h1 (by omega), hX.b.later h1 (by omega), hX.r.later h1 (by omega), h2⟩

theorem TwoIntErrP.of {w w' : World} {m1 m2 : Bool} {a1 a2 : Option Addr} {l1 c1 l2 c2 : Nat} {q r : Int} (h : NewInt w w' (.returned (.agg #[.bool m1, .slice a1 l1 c1])) q) (k : NewInt w w' (.returned (.agg #[.bool m2, .slice a2 l2 c2])) r) (hp : Parted a1 a2) : TwoIntErrP w w' (.returned (.tuple #[.agg #[.bool m1, .slice a1 l1 c1], .agg #[.bool m2, .slice a2 l2 c2], .int .i64 0])) q r := by
  obtain ⟨n1, a1, l1, c1, he1, hs1, ho1, hb1⟩ := h
  obtain ⟨n2, a2, l2, c2, he2, hs2, ho2, hb2⟩ := k
  cases he1; cases he2
  exact ⟨_, _, _, _, _, _, _, _, rfl, hs1, ho1, hs2, ho2, hb1, hp⟩
/-- both results are laid -/
theorem two_stored {w w4 : World} {s : Nat} {a1 a2 : Option Addr} {l1 c1 l2 c2 q r B : Nat} {n1 n2 : Bool} {x y : Int} (ho1 : Own B w4 .u64 54 a1 l1 c1 (mag q)) (ho2 : Own B w4 .u64 54 a2 l2 c2 (mag r)) (hB : s + 1 + 1 + 1 < B) (hs : w.heap.size = s) (hb : Below w.heap.size w w4)
    (hx : x = sgn n1 q) (hy : y = sgn n2 r) (hp : Parted a1 a2) (v1 v2 v3 v4 : Value) :
    TwoIntErrP w ((((w4.setCell ⟨s + 1 + 1, 0, none⟩ v1).setCell ⟨s + 1 + 1, 1, none⟩ v2).setCell ⟨s + 1 + 1 + 1, 0, none⟩ v3).setCell ⟨s + 1 + 1 + 1, 1, none⟩ v4) (.returned (.tuple #[.agg #[.bool (n1 && decide (0 < l1)), .slice a1 l1 c1], .agg #[.bool (n2 && decide (0 < l2)), .slice a2 l2 c2], .int .i64 0])) x y :=
  TwoIntErrP.of (NewInt.ret (((ho1.store (by omega) _ _).store (by omega) _ _)) (by omega) hx (below_store (below_store hb (by omega) _ _) (by omega) _ _)) (NewInt.ret (((ho2.store (by omega) _ _).store (by omega) _ _)) (by omega) hy (below_store (below_store hb (by omega) _ _) (by omega) _ _)) hp

end Go.Proofs.YtnodcfeimiimbaaDoor
