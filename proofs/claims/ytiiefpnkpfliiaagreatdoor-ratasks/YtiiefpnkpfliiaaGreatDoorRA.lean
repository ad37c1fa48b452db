/-
  Rationals in plain: what sums, products, quotients are made of; lengths. Rationals in memory.
-/
import Derived.Test.YtiiefpnkpfliiaaGreatDoorLD0
import Derived.Test.YtiiefpnkpfliiaaGreatDoorWP
namespace Go.Proofs.YtiiefpnkpfliiaaGreatDoor
open Go.RowKit
set_option linter.unusedVariables false
set_option linter.unusedSimpArgs false

theorem rmul_parts (a b : Rat) : (a * b).num = a.num / ((a.num.natAbs.gcd b.den : Nat) : Int) * (b.num / ((b.num.natAbs.gcd a.den : Nat) : Int)) ∧ (a * b).den = a.den / b.num.natAbs.gcd a.den * (b.den / a.num.natAbs.gcd b.den) := by
  constructor
  · show (Rat.mul a b).num = _
    rw [Rat.mul]; simp only [Int.divExact_eq_ediv]
  · show (Rat.mul a b).den = _
    rw [Rat.mul]; simp only [Nat.divExact_eq_div]
theorem rmake_parts {n : Int} {d : Nat} (h : d ≠ 0) : (Rat.normalize n d h).num = n / ((n.natAbs.gcd d : Nat) : Int) ∧ (Rat.normalize n d h).den = d / n.natAbs.gcd d := by
  rw [Rat.normalize_eq]; exact ⟨rfl, rfl⟩
theorem radd_mk (a b : Rat) (h : a.den / a.den.gcd b.den * b.den ≠ 0) : a + b = Rat.normalize (a.num * ((b.den / a.den.gcd b.den : Nat) : Int) + b.num * ((a.den / a.den.gcd b.den : Nat) : Int)) (a.den / a.den.gcd b.den * b.den) h := by
  rw [Rat.add_def, Rat.normalize_eq_iff]
  obtain ⟨x, hx⟩ := Nat.gcd_dvd_left a.den b.den
  obtain ⟨y, hy⟩ := Nat.gcd_dvd_right a.den b.den
  have hg : 0 < a.den.gcd b.den := Nat.gcd_pos_of_pos_left _ a.den_pos
  generalize hG : a.den.gcd b.den = g at *
  have e1 : a.den / g = x := by rw [hx]; exact Nat.mul_div_cancel_left _ hg
  have e2 : b.den / g = y := by rw [hy]; exact Nat.mul_div_cancel_left _ hg
  rw [e1, e2, hx, hy]
  simp only [Int.natCast_mul]
  grind
theorem radd_parts (a b : Rat) (n : Int) (hn : n = a.num * ((b.den / a.den.gcd b.den : Nat) : Int) + b.num * ((a.den / a.den.gcd b.den : Nat) : Int)) :
    (a + b).num = n / ((n.natAbs.gcd (a.den.gcd b.den) : Nat) : Int) ∧ (a + b).den = a.den / a.den.gcd b.den * (b.den / n.natAbs.gcd (a.den.gcd b.den)) := by
  have hg : 0 < a.den.gcd b.den := Nat.gcd_pos_of_pos_left _ a.den_pos
  have h : a.den / a.den.gcd b.den * b.den ≠ 0 := by
    have h1 : 0 < a.den / a.den.gcd b.den := Nat.div_pos (Nat.gcd_le_left _ a.den_pos) hg
    exact Nat.ne_of_gt (Nat.mul_pos h1 b.den_pos)
  have aux := Rat.add.aux a b rfl rfl rfl
  simp only at aux
  obtain ⟨m1, m2⟩ := rmake_parts (n := a.num * ((b.den / a.den.gcd b.den : Nat) : Int) + b.num * ((a.den / a.den.gcd b.den : Nat) : Int)) h
  rw [← radd_mk a b h, ← aux, ← hn] at m1 m2
  refine ⟨m1, ?_⟩
  rw [m2]
  exact Nat.mul_div_assoc _ (Nat.dvd_trans (Nat.gcd_dvd_right _ _) (Nat.gcd_dvd_right _ _))
theorem rlt_iff (a b : Rat) : a < b ↔ a.num * (b.den : Int) < b.num * (a.den : Int) := Rat.lt_iff a b
theorem rdiv_mk (a b : Rat) (h0 : b ≠ 0) (h : a.den * b.num.natAbs ≠ 0) : a / b = Rat.normalize (if b.num < 0 then -(a.num * (b.den : Int)) else a.num * (b.den : Int)) (a.den * b.num.natAbs) h := by
  rw [Rat.div_def, Rat.mul_def, Rat.normalize_eq_iff]
  have e1 := Rat.num_inv b
  have e2 := Rat.den_inv b
  have hn : b.num ≠ 0 := fun e => h0 (Rat.num_eq_zero.1 e)
  rw [e1]
  have e3 : (b⁻¹).den = b.num.natAbs := by rw [e2]; simp [h0]
  rw [e3]
  by_cases hlt : b.num < 0
  · rw [if_pos hlt, Int.sign_eq_neg_one_of_neg hlt]; grind
  · rw [if_neg hlt, Int.sign_eq_one_of_pos (by omega)]; grind

/-- numerator and denominator have at most k limbs -/
def Sz (r : Rat) (k : Nat) : Prop := (mag r.num.natAbs).length ≤ k ∧ (mag r.den).length ≤ k
theorem Sz.mono {r : Rat} {k m : Nat} (h : Sz r k) (hk : k ≤ m) : Sz r m := ⟨Nat.le_trans h.1 hk, Nat.le_trans h.2 hk⟩
theorem dvd_len {a b : Nat} (h : a ∣ b) (hb : 0 < b) : (mag a).length ≤ (mag b).length := mag_len_mono (Nat.le_of_dvd hb h)
theorem len_zero : (mag 0).length = 0 := by decide
theorem div_len (a b : Nat) : (mag (a / b)).length ≤ (mag a).length := mag_len_mono (Nat.div_le_self a b)
theorem idiv_abs {n : Int} {d : Nat} (h : (d : Int) ∣ n) : (n / (d : Int)).natAbs = n.natAbs / d := by
  rw [Int.natAbs_ediv_of_dvd h]; rfl
theorem idiv_len {n : Int} {d : Nat} (h : (d : Int) ∣ n) : (mag (n / (d : Int)).natAbs).length ≤ (mag n.natAbs).length := by
  rw [idiv_abs h]; exact div_len _ _
theorem gcd_dvd_abs (n : Int) (d : Nat) : ((n.natAbs.gcd d : Nat) : Int) ∣ n := Int.ofNat_dvd_left.2 (Nat.gcd_dvd_left _ _)
theorem Sz.make {n : Int} {d k : Nat} (h : d ≠ 0) (h1 : (mag n.natAbs).length ≤ k) (h2 : (mag d).length ≤ k) : Sz (Rat.normalize n d h) k := by
  obtain ⟨e1, e2⟩ := rmake_parts (n := n) h
  exact ⟨by rw [e1]; exact Nat.le_trans (idiv_len (gcd_dvd_abs _ _)) h1, by rw [e2]; exact Nat.le_trans (div_len _ _) h2⟩
theorem Sz.mul {a b : Rat} {i j : Nat} (ha : Sz a i) (hb : Sz b j) : Sz (a * b) (i + j) := by
  rw [Rat.mul_def]
  refine Sz.make _ ?_ ?_
  · rw [Int.natAbs_mul]; have := mag_len_mul a.num.natAbs b.num.natAbs; have := ha.1; have := hb.1; omega
  · have := mag_len_mul a.den b.den; have := ha.2; have := hb.2; omega
theorem Sz.neg {a : Rat} {i : Nat} (ha : Sz a i) : Sz (-a) i := ⟨by rw [Rat.neg_num, Int.natAbs_neg]; exact ha.1, by rw [Rat.neg_den]; exact ha.2⟩
theorem Sz.add {a b : Rat} {i j : Nat} (ha : Sz a i) (hb : Sz b j) : Sz (a + b) (2 * i + 2 * j + 1) := by
  rw [Rat.add_def]
  refine Sz.make _ ?_ ?_
  · have h1 := add_len (a.num * (b.den : Int)) (b.num * (a.den : Int))
    have h2 := mul_len a.num (b.den : Int)
    have h3 := mul_len b.num (a.den : Int)
    rw [Int.natAbs_natCast] at h2 h3
    have := ha.1; have := ha.2; have := hb.1; have := hb.2; omega
  · have := mag_len_mul a.den b.den; have := ha.2; have := hb.2; omega
theorem Sz.inv {a : Rat} {i : Nat} (ha : Sz a i) (h0 : a ≠ 0) : Sz a⁻¹ i := by
  have hn : a.num ≠ 0 := fun e => h0 (Rat.num_eq_zero.1 e)
  constructor
  · rw [Rat.num_inv]
    have : (a.num.sign * (a.den : Int)).natAbs = a.den := by
      rw [Int.natAbs_mul, Int.natAbs_sign_of_ne_zero hn]; simp
    rw [this]; exact ha.2
  · rw [Rat.den_inv, if_neg hn]; exact ha.1

theorem row_int {w : World} {ao : Option Addr} {l c n : Nat} (h : RowAt w .u64 ao l c (mag n)) : IntAt w false ao l c (n : Int) := ⟨by simp [sgB], h⟩
/-- a rational in memory -/
structure RatAt (w : World) (neg : Bool) (ao : Option Addr) (l c : Nat) (bo : Option Addr) (lb cb : Nat) (r : Rat) : Prop where
  num : IntAt w neg ao l c r.num
  den : RowAt w .u64 bo lb cb (mag r.den)
theorem RatAt.later {w w' : World} {neg : Bool} {ao bo : Option Addr} {l c lb cb : Nat} {r : Rat} (h : RatAt w neg ao l c bo lb cb r) (hb : Below w.heap.size w w') : RatAt w' neg ao l c bo lb cb r := ⟨h.num.later hb, h.den.later hb⟩
theorem RatAt.len {w : World} {neg : Bool} {ao bo : Option Addr} {l c lb cb k : Nat} {r : Rat} (h : RatAt w neg ao l c bo lb cb r) (hs : Sz r k) : l ≤ k ∧ lb ≤ k := ⟨by rw [h.num.row.hlen]; exact hs.1, by rw [h.den.hlen]; exact hs.2⟩
/-- a rational, in memory of the call's own: what a call hands back -/
def NewRat (w w' : World) (e : Ending) (r : Rat) : Prop :=
  ∃ neg ao l c bo lb cb, e = .returned (.agg #[.bool neg, .slice ao l c, .slice bo lb cb]) ∧ neg = sgB r.num ∧ Own w.heap.size w' .u64 59 ao l c (mag r.num.natAbs) ∧ Own w.heap.size w' .u64 59 bo lb cb (mag r.den) ∧ Parted ao bo ∧ Below w.heap.size w w'
/-- a rational and no error -/
def NewRatErr (w w' : World) (e : Ending) (r : Rat) : Prop :=
  ∃ neg ao l c bo lb cb, e = .returned (.tuple #[.agg #[.bool neg, .slice ao l c, .slice bo lb cb], .int .i64 0]) ∧ neg = sgB r.num ∧ Own w.heap.size w' .u64 59 ao l c (mag r.num.natAbs) ∧ Own w.heap.size w' .u64 59 bo lb cb (mag r.den) ∧ Parted ao bo ∧ Below w.heap.size w w'
/-- cells of a variable -/
def Bx (W : World) (r : Nat) (vs : List Value) : Prop := (∀ j v, vs[j]? = some v → W.cell? ⟨r, j, none⟩ = some v) ∧ (∀ j, W.frozen? ⟨r, j, none⟩ = false)
theorem Bx.later {W w' : World} {B r : Nat} {vs : List Value} (h : Bx W r vs) (hb : Below B W w') (hr : r < B) : Bx w' r vs :=
  ⟨fun j v hj => (hb.cell (p := ⟨r, j, none⟩) hr).trans (h.1 j v hj), fun j => (hb.frozen (p := ⟨r, j, none⟩) hr).trans (h.2 j)⟩
end Go.Proofs.YtiiefpnkpfliiaaGreatDoor
