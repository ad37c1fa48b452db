/-
  A pack of walks and facts: TD, OH, OK, TKa, TOa.
-/
import Derived.Test.YthjkdnlbdhhmbaaGreatDoorPV28
import Derived.Test.YthjkdnlbdhhmbaaGreatDoorPV29
set_option maxRecDepth 100000
set_option maxHeartbeats 40000000
set_option linter.unusedVariables false
set_option linter.unusedSimpArgs false
namespace Go.Proofs.YthjkdnlbdhhmbaaGreatDoor
open Go.RowKit
theorem smay_bad1 (n1 n2 : Bool) (o1 p1 o2 p2 : Option Addr) (l1 c1 m1 k1 l2 c2 m2 k2 : Nat) (x1 d1 : List Int) (w : World) (hx1 : RowAt w .u64 o1 l1 c1 x1) (wx1 : Wd 18446744073709551616 x1) (hd1 : RowAt w .u64 p1 m1 k1 d1) (wd1 : Wd 18446744073709551616 d1) (hl1 : l1 ≤ 4) (hm1 : m1 ≤ 4) (h1 : mayR n1 x1 d1 = false) :
  Calls Tryz.prog 8 #[.agg #[.bool n1, .slice o1 l1 c1, .slice p1 m1 k1, .bool n2, .slice o2 l2 c2, .slice p2 m2 k2]] w fun e w' => e = .returned (.bool false) ∧ Below w.heap.size w w' := by
 obtain ⟨W, hW, hsz, hbW, hA⟩ := enter1 w [.bool n1, .slice o1 l1 c1, .slice p1 m1 k1, .bool n2, .slice o2 l2 c2, .slice p2 m2 k2] 32
 have HX : Hid (RowAt W .u64 o1 l1 c1 x1 ∧ RowAt W .u64 p1 m1 k1 d1) := ⟨hx1.later hbW, hd1.later hbW⟩
 have HM : Hid (mayR n1 x1 d1 = false) := h1
 clear hx1 hd1 h1
 go_enter Tryz.func8, Tryz.ntmps8
 go_wp2_with (go_at_call 7; rw [← hW]; refine (qmay_any n1 o1 p1 l1 c1 m1 k1 x1 d1 _ HX.out.1 wx1 HX.out.2 wd1 (by omega) (by omega) false HM.out).mono ?_; rintro e w1 ⟨rfl, hb1⟩)
 go_ret
 exact ⟨rfl, bnext hbW hb1⟩
theorem smay_bad2 (n1 n2 : Bool) (o1 p1 o2 p2 : Option Addr) (l1 c1 m1 k1 l2 c2 m2 k2 : Nat) (x1 d1 x2 d2 : List Int) (w : World) (hx1 : RowAt w .u64 o1 l1 c1 x1) (wx1 : Wd 18446744073709551616 x1) (hd1 : RowAt w .u64 p1 m1 k1 d1) (wd1 : Wd 18446744073709551616 d1) (hx2 : RowAt w .u64 o2 l2 c2 x2) (wx2 : Wd 18446744073709551616 x2) (hd2 : RowAt w .u64 p2 m2 k2 d2) (wd2 : Wd 18446744073709551616 d2) (hl1 : l1 ≤ 4) (hm1 : m1 ≤ 4) (hl2 : l2 ≤ 4) (hm2 : m2 ≤ 4) (h1 : mayR n1 x1 d1 = true) (h2 : mayR n2 x2 d2 = false) :
  Calls Tryz.prog 8 #[.agg #[.bool n1, .slice o1 l1 c1, .slice p1 m1 k1, .bool n2, .slice o2 l2 c2, .slice p2 m2 k2]] w fun e w' => e = .returned (.bool false) ∧ Below w.heap.size w w' := by
 obtain ⟨W, hW, hsz, hbW, hA⟩ := enter1 w [.bool n1, .slice o1 l1 c1, .slice p1 m1 k1, .bool n2, .slice o2 l2 c2, .slice p2 m2 k2] 32
 have HX : Hid ((RowAt W .u64 o1 l1 c1 x1 ∧ RowAt W .u64 p1 m1 k1 d1) ∧ (RowAt W .u64 o2 l2 c2 x2 ∧ RowAt W .u64 p2 m2 k2 d2)) := ⟨⟨hx1.later hbW, hd1.later hbW⟩, ⟨hx2.later hbW, hd2.later hbW⟩⟩
 have HM : Hid (mayR n1 x1 d1 = true ∧ mayR n2 x2 d2 = false) := ⟨h1, h2⟩
 clear hx1 hd1 h1 hx2 hd2 h2
 go_enter Tryz.func8, Tryz.ntmps8
 go_wp2_with (first
  | (go_at_call 7; have _t := hb1; refine (qmay_any n2 o2 p2 l2 c2 m2 k2 x2 d2 _ (HX.out.2.1.later hb1) wx2 (HX.out.2.2.later hb1) wd2 (by omega) (by omega) false HM.out.2).mono ?_; rintro e w2 ⟨rfl, hb2⟩)
  | (go_at_call 7; rw [← hW]; refine (qmay_any n1 o1 p1 l1 c1 m1 k1 x1 d1 _ HX.out.1.1 wx1 HX.out.1.2 wd1 (by omega) (by omega) true HM.out.1).mono ?_; rintro e w1 ⟨rfl, hb1⟩; have ub := hA.later hb1 (by omega); have u0 := ub.1 0 _ rfl; have u1 := ub.1 1 _ rfl; have u2 := ub.1 2 _ rfl; have u3 := ub.1 3 _ rfl; have u4 := ub.1 4 _ rfl; have u5 := ub.1 5 _ rfl; clear ub))
 go_ret
 exact ⟨rfl, bnext hbW (bnext hb1 hb2)⟩
theorem smay_good (n1 n2 : Bool) (o1 p1 o2 p2 : Option Addr) (l1 c1 m1 k1 l2 c2 m2 k2 : Nat) (x1 d1 x2 d2 : List Int) (w : World) (hx1 : RowAt w .u64 o1 l1 c1 x1) (wx1 : Wd 18446744073709551616 x1) (hd1 : RowAt w .u64 p1 m1 k1 d1) (wd1 : Wd 18446744073709551616 d1) (hx2 : RowAt w .u64 o2 l2 c2 x2) (wx2 : Wd 18446744073709551616 x2) (hd2 : RowAt w .u64 p2 m2 k2 d2) (wd2 : Wd 18446744073709551616 d2) (hl1 : l1 ≤ 4) (hm1 : m1 ≤ 4) (hl2 : l2 ≤ 4) (hm2 : m2 ≤ 4) (h1 : mayR n1 x1 d1 = true) (h2 : mayR n2 x2 d2 = true) (a b : Rat) (hx : RatAt w n1 o1 l1 c1 p1 m1 k1 a) (hy : RatAt w n2 o2 l2 c2 p2 m2 k2 b) (ha : Sz a 4) (hb : Sz b 4) (r : Bool) (hr : decide (cmpQ a b ≤ 0) = r) :
  Calls Tryz.prog 8 #[.agg #[.bool n1, .slice o1 l1 c1, .slice p1 m1 k1, .bool n2, .slice o2 l2 c2, .slice p2 m2 k2]] w fun e w' => e = .returned (.bool r) ∧ Below w.heap.size w w' := by
 obtain ⟨W, hW, hsz, hbW, hA⟩ := enter1 w [.bool n1, .slice o1 l1 c1, .slice p1 m1 k1, .bool n2, .slice o2 l2 c2, .slice p2 m2 k2] 32
 have HX : Hid (((RowAt W .u64 o1 l1 c1 x1 ∧ RowAt W .u64 p1 m1 k1 d1) ∧ (RowAt W .u64 o2 l2 c2 x2 ∧ RowAt W .u64 p2 m2 k2 d2)) ∧ RatAt W n1 o1 l1 c1 p1 m1 k1 a ∧ RatAt W n2 o2 l2 c2 p2 m2 k2 b) := ⟨⟨⟨hx1.later hbW, hd1.later hbW⟩, ⟨hx2.later hbW, hd2.later hbW⟩⟩, hx.later hbW, hy.later hbW⟩
 have HM : Hid (mayR n1 x1 d1 = true ∧ mayR n2 x2 d2 = true) := ⟨h1, h2⟩
 obtain ⟨c, hc1⟩ : ∃ c, cmpQ a b = c := ⟨_, rfl⟩
 have HCC : Hid (cmpQ a b = c ∧ Sz a 1000 ∧ Sz b 1000) := ⟨hc1, ha.mono (by decide), hb.mono (by decide)⟩
 rw [hc1] at hr
 have HR : Hid (decide (c ≤ 0) = r) := hr
 clear hx1 hd1 h1 hx2 hd2 h2 hx hy ha hb hc1 hr
 go_enter Tryz.func8, Tryz.ntmps8
 go_wp2_with (first
  | (go_at_call 7; have _t := hb1; refine (qmay_any n2 o2 p2 l2 c2 m2 k2 x2 d2 _ (HX.out.1.2.1.later hb1) wx2 (HX.out.1.2.2.later hb1) wd2 (by omega) (by omega) true HM.out.2).mono ?_; rintro e w2 ⟨rfl, hb2'⟩; have hb2 := bnext hb1 hb2'; clear hb2' u0 u1 u2 u3 u4 u5 hb1; have ub := hA.later hb2 (by omega); have u0 := ub.1 0 _ rfl; have u1 := ub.1 1 _ rfl; have u2 := ub.1 2 _ rfl; have u3 := ub.1 3 _ rfl; have u4 := ub.1 4 _ rfl; have u5 := ub.1 5 _ rfl; clear ub)
  | (go_at_call 7; rw [← hW]; refine (qmay_any n1 o1 p1 l1 c1 m1 k1 x1 d1 _ HX.out.1.1.1 wx1 HX.out.1.1.2 wd1 (by omega) (by omega) true HM.out.1).mono ?_; rintro e w1 ⟨rfl, hb1⟩; have ub := hA.later hb1 (by omega); have u0 := ub.1 0 _ rfl; have u1 := ub.1 1 _ rfl; have u2 := ub.1 2 _ rfl; have u3 := ub.1 3 _ rfl; have u4 := ub.1 4 _ rfl; have u5 := ub.1 5 _ rfl; clear ub)
  | (go_at_call 26; refine (qcmp_any n1 n2 o1 p1 o2 p2 l1 c1 m1 k1 l2 c2 m2 k2 a b _ (HX.out.2.1.later hb2) (HX.out.2.2.later hb2) HCC.out.2.1 HCC.out.2.2 c HCC.out.1).mono ?_; rintro e w3 ⟨rfl, hb3⟩))
 go_ret
 exact ⟨ret_bool HR.out, bnext hbW (bnext hb2 hb3)⟩
theorem RatAt.sz {w : World} {n : Bool} {o p : Option Addr} {l c m k K : Nat} {a : Rat} (h : RatAt w n o l c p m k a) (hl : l ≤ K) (hm : m ≤ K) : Sz a K := ⟨by rw [← h.num.row.hlen]; exact hl, by rw [← h.den.hlen]; exact hm⟩
theorem eqspan_same (n1 n2 n3 n4 : Bool) (o1 p1 o2 p2 o3 p3 o4 p4 : Option Addr) (l1 c1 m1 k1 l2 c2 m2 k2 l3 c3 m3 k3 l4 c4 m4 k4 : Nat) (a b : Rat) (w : World) (hx : RatAt w n1 o1 l1 c1 p1 m1 k1 a) (hy : RatAt w n2 o2 l2 c2 p2 m2 k2 b) (hx' : RatAt w n3 o3 l3 c3 p3 m3 k3 a) (hy' : RatAt w n4 o4 l4 c4 p4 m4 k4 b) (ha : Sz a 100000) (hb : Sz b 100000) :
  Calls Tryz.prog 14 #[.agg #[.bool n1, .slice o1 l1 c1, .slice p1 m1 k1, .bool n2, .slice o2 l2 c2, .slice p2 m2 k2], .agg #[.bool n3, .slice o3 l3 c3, .slice p3 m3 k3, .bool n4, .slice o4 l4 c4, .slice p4 m4 k4]] w fun e w' => e = .returned (.bool true) ∧ Below w.heap.size w w' := by
 obtain ⟨W, hW, hsz, hbW, hA, hB⟩ := enter2 w [.bool n1, .slice o1 l1 c1, .slice p1 m1 k1, .bool n2, .slice o2 l2 c2, .slice p2 m2 k2] [.bool n3, .slice o3 l3 c3, .slice p3 m3 k3, .bool n4, .slice o4 l4 c4, .slice p4 m4 k4] 32 32
 have HX : Hid ((RatAt W n1 o1 l1 c1 p1 m1 k1 a ∧ RatAt W n3 o3 l3 c3 p3 m3 k3 a) ∧ (RatAt W n2 o2 l2 c2 p2 m2 k2 b ∧ RatAt W n4 o4 l4 c4 p4 m4 k4 b)) := ⟨⟨hx.later hbW, hx'.later hbW⟩, ⟨hy.later hbW, hy'.later hbW⟩⟩
 have hl1 : l1 ≤ 100000 := (hx.len ha).1
 have hm1 : m1 ≤ 100000 := (hx.len ha).2
 have hl2 : l2 ≤ 100000 := (hy.len hb).1
 have hm2 : m2 ≤ 100000 := (hy.len hb).2
 clear hx hy hx' hy' ha hb
 go_enter Tryz.func14, Tryz.ntmps14
 go_wp2_with (first
  | (go_at_call 12; have _t := hb1; refine (eqrat_same n2 n4 o2 p2 o4 p4 l2 c2 m2 k2 l4 c4 m4 k4 b _ (HX.out.2.1.later hb1) (HX.out.2.2.later hb1) (by omega) (by omega)).mono ?_; rintro e w2 ⟨rfl, hb2⟩)
  | (go_at_call 12; rw [← hW]; refine (eqrat_same n1 n3 o1 p1 o3 p3 l1 c1 m1 k1 l3 c3 m3 k3 a _ HX.out.1.1 HX.out.1.2 (by omega) (by omega)).mono ?_; rintro e w1 ⟨rfl, hb1⟩; have ub := hA.later hb1 (by omega); have u0 := ub.1 0 _ rfl; have u1 := ub.1 1 _ rfl; have u2 := ub.1 2 _ rfl; have u3 := ub.1 3 _ rfl; have u4 := ub.1 4 _ rfl; have u5 := ub.1 5 _ rfl; clear ub; have qb := hB.later hb1 (by omega); have q0 := qb.1 0 _ rfl; have q1 := qb.1 1 _ rfl; have q2 := qb.1 2 _ rfl; have q3 := qb.1 3 _ rfl; have q4 := qb.1 4 _ rfl; have q5 := qb.1 5 _ rfl; clear qb))
 go_ret
 exact ⟨rfl, bnext hbW (bnext hb1 hb2)⟩
def sLo (a b : Rat) : Int := a.num * ((b.den : Int) / ((Nat.gcd a.den b.den : Nat) : Int))
def sHi (a b : Rat) : Int := b.num * ((a.den : Int) / ((Nat.gcd a.den b.den : Nat) : Int))
def sDn (a b : Rat) : Int := (a.den : Int) * ((b.den : Int) / ((Nat.gcd a.den b.den : Nat) : Int))
def vLo (p : List Int) (a b : Rat) : Rat := mkRat (spanI p (sLo a b) (sHi a b) (sDn a b)).1 ((sDn a b).natAbs ^ (p.length - 1))
def vHi (p : List Int) (a b : Rat) : Rat := mkRat (spanI p (sLo a b) (sHi a b) (sDn a b)).2 ((sDn a b).natAbs ^ (p.length - 1))
theorem num_den (a : Rat) : a * ((a.den : Int) : Rat) = (a.num : Rat) := by
 have hd0 : ((a.den : Int) : Rat) ≠ 0 := by
  intro h
  have := a.den_nz
  have h2 : (a.den : Int) = 0 := by exact_mod_cast h
  omega
 have h1 : (a.num : Rat) / ((a.den : Nat) : Rat) = a := by rw [← Rat.mkRat_eq_div, Rat.mkRat_self]
 have h2 : ((a.den : Nat) : Rat) = ((a.den : Int) : Rat) := by norm_cast
 have h3 : a = (a.num : Rat) * ((a.den : Int) : Rat)⁻¹ := by rw [← h2, ← Rat.div_def]; exact h1.symm
 have h4 := congrArg (· * ((a.den : Int) : Rat)) h3
 simp only [Rat.mul_assoc, Rat.inv_mul_cancel _ hd0, Rat.mul_one] at h4
 exact h4
theorem gcd_pos (a b : Rat) : 0 < Nat.gcd a.den b.den := Nat.gcd_pos_of_pos_left _ (Nat.pos_of_ne_zero a.den_nz)
theorem sDn_pos (a b : Rat) : 0 < sDn a b := by
 have hq : 0 < b.den / Nat.gcd a.den b.den := Nat.div_pos (Nat.le_of_dvd (Nat.pos_of_ne_zero b.den_nz) (Nat.gcd_dvd_right _ _)) (gcd_pos a b)
 have hq2 : (0 : Int) < (b.den : Int) / ((Nat.gcd a.den b.den : Nat) : Int) := by
  show (0 : Int) < ((b.den / Nat.gcd a.den b.den : Nat) : Int)
  omega
 have hq3 : (0 : Int) < (a.den : Int) := by have := Nat.pos_of_ne_zero a.den_nz; omega
 exact Int.mul_pos hq3 hq2
theorem lo_over (a b : Rat) : a * (sDn a b : Rat) = (sLo a b : Rat) := by
 unfold sDn sLo
 rw [Rat.intCast_mul, Rat.intCast_mul, ← Rat.mul_assoc, num_den]
theorem sDn_other (a b : Rat) : sDn a b = (b.den : Int) * ((a.den : Int) / ((Nat.gcd a.den b.den : Nat) : Int)) := by
 have h1 : a.den * (b.den / Nat.gcd a.den b.den) = b.den * (a.den / Nat.gcd a.den b.den) := by
  rw [← Nat.mul_div_assoc _ (Nat.gcd_dvd_right _ _), ← Nat.mul_div_assoc _ (Nat.gcd_dvd_left _ _), Nat.mul_comm]
 unfold sDn
 have h2 := congrArg (fun n : Nat => (n : Int)) h1
 simpa using h2
theorem hi_over (a b : Rat) : b * (sDn a b : Rat) = (sHi a b : Rat) := by
 rw [sDn_other]
 unfold sHi
 rw [Rat.intCast_mul, Rat.intCast_mul, ← Rat.mul_assoc, num_den]
theorem le_of_mul {a b d : Rat} (hd : 0 < d) (h : a * d ≤ b * d) : a ≤ b := Rat.le_of_mul_le_mul_right h hd
theorem pow_posQ {d : Int} (hd : 0 < d) (n : Nat) : (0 : Rat) < (d : Rat) ^ n := by
 have h : (0 : Int) < d ^ n := Int.pow_pos hd
 have h2 : ((0 : Int) : Rat) < ((d ^ n : Int) : Rat) := by exact_mod_cast h
 rw [Rat.intCast_pow] at h2
 exact h2
theorem mk_over (n : Int) {d : Int} (hd : 0 < d) (k : Nat) : mkRat n (d.natAbs ^ k) * ((d : Rat) ^ k) = (n : Rat) := by
 have h1 : ((d.natAbs ^ k : Nat) : Rat) = (d : Rat) ^ k := by
  have e : ((d.natAbs ^ k : Nat) : Int) = d ^ k := by rw [Int.natCast_pow]; congr 1; omega
  have e2 : (((d.natAbs ^ k : Nat) : Int) : Rat) = ((d ^ k : Int) : Rat) := by rw [e]
  rw [Rat.intCast_pow] at e2
  exact_mod_cast e2
 rw [Rat.mkRat_eq_div, h1, Rat.div_def, Rat.mul_assoc, Rat.inv_mul_cancel _ (Rat.ne_of_gt (pow_posQ hd k)), Rat.mul_one]
theorem s_lims {a b : Rat} (ha : Sz a 2) (hb : Sz b 2) : lim (sLo a b) ≤ 4 ∧ lim (sHi a b) ≤ 4 ∧ lim (sDn a b) ≤ 4 := by
 have e1 : lim ((a.den : Int) / ((Nat.gcd a.den b.den : Nat) : Int)) ≤ 2 := by
  show (mag (((a.den / Nat.gcd a.den b.den : Nat) : Int)).natAbs).length ≤ 2
  rw [Int.natAbs_natCast]
  exact Nat.le_trans (mag_len_mono (Nat.div_le_self a.den _)) ha.2
 have e2 : lim ((b.den : Int) / ((Nat.gcd a.den b.den : Nat) : Int)) ≤ 2 := by
  show (mag (((b.den / Nat.gcd a.den b.den : Nat) : Int)).natAbs).length ≤ 2
  rw [Int.natAbs_natCast]
  exact Nat.le_trans (mag_len_mono (Nat.div_le_self b.den _)) hb.2
 have e3 : lim a.num ≤ 2 := ha.1
 have e4 : lim b.num ≤ 2 := hb.1
 have e5 : lim (a.den : Int) ≤ 2 := ha.2
 have h1 := lim_mul a.num ((b.den : Int) / ((Nat.gcd a.den b.den : Nat) : Int))
 have h2 := lim_mul b.num ((a.den : Int) / ((Nat.gcd a.den b.den : Nat) : Int))
 have h3 := lim_mul (a.den : Int) ((b.den : Int) / ((Nat.gcd a.den b.den : Nat) : Int))
 unfold sLo sHi sDn
 exact ⟨by omega, by omega, by omega⟩
theorem mk_sz {n : Int} {D K : Nat} (h : D ≠ 0) (h1 : lim n ≤ K) (h2 : (mag D).length ≤ K) : Sz (mkRat n D) K := by
 rw [← Rat.normalize_eq_mkRat h]
 exact Sz.make h h1 h2
theorem lim_powK5 (d : Int) (m : Nat) (h : lim d ≤ 5) : lim (d ^ m) ≤ 5 * m + 1 := by
 induction m with
 | zero => rw [Int.pow_zero]; decide
 | succ m ih => rw [Int.pow_succ]; have := lim_mul (d ^ m) d; omega
theorem homo_lim5 (n d : Int) (hn : lim n ≤ 5) (hd : lim d ≤ 5) : ∀ l : List Int, Lim 3 l → l.length ≤ 11 → lim (homo l n d) ≤ l.length * 66 := by
 intro l
 induction l with
 | nil => intro _ _; show lim 0 ≤ _; rw [lim_zero]; omega
 | cons c l ih =>
  intro hA hN
  have h1 := ih (fun t => by have := hA (t + 1); rw [dig_cons] at this; exact this) (by simp at hN; omega)
  have h2 : lim c ≤ 3 := by have := hA 0; simpa [dig] using this
  have h3 := lim_mul (homo l n d) n
  have h4 := lim_mul c (d ^ l.length)
  have h5 := lim_powK5 d l.length hd
  have h6 := lim_add (homo l n d * n) (c * d ^ l.length)
  show lim (homo l n d * n + c * d ^ l.length) ≤ _
  rw [List.length_cons] at hN ⊢
  omega
def SpanAns (w w' : World) (e : Ending) (a b : Rat) : Prop := ∃ nX oX lX cX pX mX kX nY oY lY cY pY mY kY, e = .returned (.tuple #[.agg #[.bool nX, .slice oX lX cX, .slice pX mX kX, .bool nY, .slice oY lY cY, .slice pY mY kY], .int .i64 0]) ∧ RatAt w' nX oX lX cX pX mX kX a ∧ RatAt w' nY oY lY cY pY mY kY b ∧ Below w.heap.size w w'
theorem evalSpan_good (ao : Option Addr) (len cap : Nat) (p : List Int) (n1 n2 : Bool) (o1 p1 o2 p2 : Option Addr) (l1 c1 m1 k1 l2 c2 m2 k2 : Nat) (a b : Rat) (w : World) (hp : GP w ao len cap 3 p) (hx : RatAt w n1 o1 l1 c1 p1 m1 k1 a) (hy : RatAt w n2 o2 l2 c2 p2 m2 k2 b) (ha : Sz a 2) (hb : Sz b 2) (hc : cmpQ a b ≤ 0) (hT0 : TabAt 0 Lib.deBruijn64tab w) :
  Calls Tryz.prog 10 #[.slice ao len cap, .agg #[.bool n1, .slice o1 l1 c1, .slice p1 m1 k1, .bool n2, .slice o2 l2 c2, .slice p2 m2 k2]] w fun e w' => SpanAns w w' e (vLo p a b) (vHi p a b) := by
 obtain ⟨W, hW⟩ : ∃ W, W = (w.alloc (.cells #[.bool n1, .slice o1 l1 c1, .slice p1 m1 k1, .bool n2, .slice o2 l2 c2, .slice p2 m2 k2] 32)).alloc (.cells #[.bool false, .slice none 0 0, .slice none 0 0, .bool false, .slice none 0 0, .slice none 0 0] 32) := ⟨_, rfl⟩
 have HWE : Hid (W = (w.alloc (.cells #[.bool n1, .slice o1 l1 c1, .slice p1 m1 k1, .bool n2, .slice o2 l2 c2, .slice p2 m2 k2] 32)).alloc (.cells #[.bool false, .slice none 0 0, .slice none 0 0, .bool false, .slice none 0 0, .slice none 0 0] 32)) := hW
 have HV : Hid (Vars w W [(w.heap.size + 1, [.bool false, .slice none 0 0, .slice none 0 0, .bool false, .slice none 0 0, .slice none 0 0]), (w.heap.size, [.bool n1, .slice o1 l1 c1, .slice p1 m1 k1, .bool n2, .slice o2 l2 c2, .slice p2 m2 k2])]) := by
  rw [hW]
  exact ((Vars.nil w).alloc rfl [.bool n1, .slice o1 l1 c1, .slice p1 m1 k1, .bool n2, .slice o2 l2 c2, .slice p2 m2 k2] _).alloc (by simp) [.bool false, .slice none 0 0, .slice none 0 0, .bool false, .slice none 0 0, .slice none 0 0] _
 have h1 := (hp.later HV.out.below).check
 have HR : Hid (GP w ao len cap 3 p ∧ RatAt w n1 o1 l1 c1 p1 m1 k1 a ∧ RatAt w n2 o2 l2 c2 p2 m2 k2 b ∧ (Sz a 2 ∧ Sz b 2) ∧ cmpQ a b ≤ 0 ∧ TabAt 0 Lib.deBruijn64tab w) := ⟨hp, hx, hy, ⟨ha, hb⟩, hc, hT0⟩
 clear hW hp hx hy ha hb hc hT0
 go_enter Tryz.func10, Tryz.ntmps10
 go_wp2_with (first
  | (go_at_call 27; rw [← HWE.out]; refine h1.mono ?_; rintro e w1 ⟨rfl, hb1⟩; have H1 : Hid (Below W.heap.size W w1) := hb1; clear h1 hb1; have hv := HV.out.later H1.out; have x0 := hv.cell 1 0 rfl rfl; have x1 := hv.cell 1 1 rfl rfl; have x2 := hv.cell 1 2 rfl rfl; have x3 := hv.cell 1 3 rfl rfl; have x4 := hv.cell 1 4 rfl rfl; have x5 := hv.cell 1 5 rfl rfl; clear hv)
  | (go_at_call 30; refine (scheck_good n1 n2 o1 p1 o2 p2 l1 c1 m1 k1 l2 c2 m2 k2 a b _ (HR.out.2.1.later (bnext HV.out.below H1.out)) (HR.out.2.2.1.later (bnext HV.out.below H1.out)) (HR.out.2.2.2.1.1.mono (by decide)) (HR.out.2.2.2.1.2.mono (by decide)) HR.out.2.2.2.2.1 (tab_later HR.out.2.2.2.2.2 (bnext HV.out.below H1.out))).mono ?_; rintro e w2 ⟨rfl, hb2⟩; have H2 : Hid (Below W.heap.size W w2) := bnext H1.out hb2; clear hb2 x0 x1 x2 x3 x4 x5; have hv := HV.out.later H2.out; have x0 := hv.cell 1 0 rfl rfl; have x1 := hv.cell 1 1 rfl rfl; have x2 := hv.cell 1 2 rfl rfl; have x3 := hv.cell 1 3 rfl rfl; have x4 := hv.cell 1 4 rfl rfl; have x5 := hv.cell 1 5 rfl rfl; clear hv)
  | (go_at_call 31; refine (values_any ao len cap 3 (Nat.gcd a.den b.den) p n1 n2 o1 p1 o2 p2 l1 c1 m1 k1 l2 c2 m2 k2 a b (sLo a b) (sHi a b) (sDn a b) _ (HR.out.1.later (bnext HV.out.below H2.out)).at' (HR.out.2.1.later (bnext HV.out.below H2.out)) (HR.out.2.2.1.later (bnext HV.out.below H2.out)) HR.out.2.2.2.1.1 HR.out.2.2.2.1.2 (by have := HR.out.1.short; omega) (by decide) HR.out.1.lims rfl rfl rfl rfl (tab_later HR.out.2.2.2.2.2 (bnext HV.out.below H2.out))).mono ?_; rintro e w3 ⟨nX, oX, lX, cX, pX, mX, kX, nY, oY, lY, cY, pY, mY, kY, rfl, hX, hY, hb3⟩; have H3 : Hid (RatAt w3 nX oX lX cX pX mX kX (vLo p a b) ∧ RatAt w3 nY oY lY cY pY mY kY (vHi p a b) ∧ Vars w w3 [(w.heap.size + 1, [.bool false, .slice none 0 0, .slice none 0 0, .bool false, .slice none 0 0, .slice none 0 0]), (w.heap.size, [.bool n1, .slice o1 l1 c1, .slice p1 m1 k1, .bool n2, .slice o2 l2 c2, .slice p2 m2 k2])]) := ⟨hX, hY, HV.out.later (bnext H2.out hb3)⟩; clear hX hY hb3 x0 x1 x2 x3 x4 x5; have y0 := H3.out.2.2.cell 0 0 rfl rfl; have y1 := H3.out.2.2.cell 0 1 rfl rfl; have y2 := H3.out.2.2.cell 0 2 rfl rfl; have y3 := H3.out.2.2.cell 0 3 rfl rfl; have y4 := H3.out.2.2.cell 0 4 rfl rfl; have y5 := H3.out.2.2.cell 0 5 rfl rfl; have yf := H3.out.2.2.soft 0 rfl))
 have hbx := (H3.out.2.2.box 0 _ _ rfl).1
 have hge := H3.out.2.2.ge 0 rfl
 have hno : ∀ b : Bool, ∀ u, Value.bool b ≠ .int .u64 u := fun b u e => by cases e
 have hns : ∀ u, Value.slice none 0 0 ≠ .int .u64 u := fun u e => by cases e
 have hX := H3.out.1.setSix hbx (hno _) hns hns (hno _) hns hns (.bool nX) (.slice oX lX cX) (.slice pX mX kX) (.bool nY) (.slice oY lY cY) (.slice pY mY kY)
 have hY := H3.out.2.1.setSix hbx (hno _) hns hns (hno _) hns hns (.bool nX) (.slice oX lX cX) (.slice pX mX kX) (.bool nY) (.slice oY lY cY) (.slice pY mY kY)
 have hbl := below_set (v := .slice pY mY kY) (j := 5) (below_set (v := .slice oY lY cY) (j := 4) (below_set (v := .bool nY) (j := 3) (below_set (v := .slice pX mX kX) (j := 2) (below_set (v := .slice oX lX cX) (j := 1) (below_set (v := .bool nX) (j := 0) H3.out.2.2.below hge) hge) hge) hge) hge) hge
 exact bodyPost_ret (v := .tuple #[.agg #[.bool nX, .slice oX lX cX, .slice pX mX kX, .bool nY, .slice oY lY cY, .slice pY mY kY], .int .i64 0]) (by simp [results, Tryz.results10, go_sem, y0, y1, y2, y3, y4, y5, yf]) rfl
  ⟨_, _, _, _, _, _, _, _, _, _, _, _, _, _, rfl, hX, hY, hbl⟩
def SpW (w w' : World) (e : Ending) (a b : Rat) : Prop := ∃ n1 o1 l1 c1 p1 m1 k1 n2 o2 l2 c2 p2 m2 k2, e = .returned (.agg #[.bool n1, .slice o1 l1 c1, .slice p1 m1 k1, .bool n2, .slice o2 l2 c2, .slice p2 m2 k2]) ∧ RatAt w' n1 o1 l1 c1 p1 m1 k1 a ∧ RatAt w' n2 o2 l2 c2 p2 m2 k2 b ∧ Below w.heap.size w w'
theorem pof_any (n1 : Bool) (o1 p1 : Option Addr) (l1 c1 m1 k1 : Nat) (a : Rat) (w : World) (hx : RatAt w n1 o1 l1 c1 p1 m1 k1 a) :
  Calls Tryz.prog 38 #[.agg #[.bool n1, .slice o1 l1 c1, .slice p1 m1 k1]] w fun e w' => SpW w w' e a a := by
 obtain ⟨W, hW, hsz, hbW, hA, hR⟩ := enter2 w [.bool n1, .slice o1 l1 c1, .slice p1 m1 k1] [.bool false, .slice none 0 0, .slice none 0 0, .bool false, .slice none 0 0, .slice none 0 0] 30 32
 have HX : Hid (RatAt W n1 o1 l1 c1 p1 m1 k1 a) := hx.later hbW
 have hr := Below.refl W.heap.size W
 have u0 := hA.1 0 _ rfl; have u1 := hA.1 1 _ rfl; have u2 := hA.1 2 _ rfl
 have hF := hR.later hr (by omega); have g6 := hF.2; have g0 := hF.1 0 _ rfl; have g1 := hF.1 1 _ rfl; have g2 := hF.1 2 _ rfl; have g3 := hF.1 3 _ rfl; have g4 := hF.1 4 _ rfl; have g5 := hF.1 5 _ rfl; clear hF
 clear hx
 go_enter Tryz.func38, Tryz.ntmps38
 go_upto_region 1 with fail
 rw [← hW]
 clear hW
 go_wp2
 exact bodyPost_ret (v := .agg #[.bool n1, .slice o1 l1 c1, .slice p1 m1 k1, .bool n1, .slice o1 l1 c1, .slice p1 m1 k1]) (by simp [results, Tryz.results38, go_sem, g0, g1, g2, g3, g4, g5]) rfl
  ⟨_, _, _, _, _, _, _, _, _, _, _, _, _, _, rfl, (hR.later hr (by omega)).rat (by simp [NoWord]) (ws := [.bool n1, .slice o1 l1 c1, .slice p1 m1 k1, .bool n1, .slice o1 l1 c1, .slice p1 m1 k1]) rfl HX.out, (hR.later hr (by omega)).rat (by simp [NoWord]) (ws := [.bool n1, .slice o1 l1 c1, .slice p1 m1 k1, .bool n1, .slice o1 l1 c1, .slice p1 m1 k1]) rfl HX.out, putl_below (r := w.heap.size + 1) (by omega) [.bool n1, .slice o1 l1 c1, .slice p1 m1 k1, .bool n1, .slice o1 l1 c1, .slice p1 m1 k1] 0 _ (bnext hbW hr)⟩
theorem pplus_any (n1 n2 n3 n4 : Bool) (o1 p1 o2 p2 o3 p3 o4 p4 : Option Addr) (l1 c1 m1 k1 l2 c2 m2 k2 l3 c3 m3 k3 l4 c4 m4 k4 : Nat) (a b a' b' : Rat) (w : World) (hx : RatAt w n1 o1 l1 c1 p1 m1 k1 a) (hy : RatAt w n2 o2 l2 c2 p2 m2 k2 b) (hx' : RatAt w n3 o3 l3 c3 p3 m3 k3 a') (hy' : RatAt w n4 o4 l4 c4 p4 m4 k4 b') (ha : Sz a 1000) (hb : Sz b 1000) (ha' : Sz a' 1000) (hb' : Sz b' 1000) :
  Calls Tryz.prog 40 #[.agg #[.bool n1, .slice o1 l1 c1, .slice p1 m1 k1, .bool n2, .slice o2 l2 c2, .slice p2 m2 k2], .agg #[.bool n3, .slice o3 l3 c3, .slice p3 m3 k3, .bool n4, .slice o4 l4 c4, .slice p4 m4 k4]] w fun e w' => SpW w w' e (a + a') (b + b') := by
 obtain ⟨W, hW, hsz, hbW, hA, hB, hR⟩ := enter3 w [.bool n1, .slice o1 l1 c1, .slice p1 m1 k1, .bool n2, .slice o2 l2 c2, .slice p2 m2 k2] [.bool n3, .slice o3 l3 c3, .slice p3 m3 k3, .bool n4, .slice o4 l4 c4, .slice p4 m4 k4] [.bool false, .slice none 0 0, .slice none 0 0, .bool false, .slice none 0 0, .slice none 0 0] 32 32 32
 have HX : Hid ((RatAt W n1 o1 l1 c1 p1 m1 k1 a ∧ RatAt W n2 o2 l2 c2 p2 m2 k2 b) ∧ (RatAt W n3 o3 l3 c3 p3 m3 k3 a' ∧ RatAt W n4 o4 l4 c4 p4 m4 k4 b')) := ⟨⟨hx.later hbW, hy.later hbW⟩, ⟨hx'.later hbW, hy'.later hbW⟩⟩
 have HC : Hid ((Sz a 1000 ∧ Sz b 1000) ∧ (Sz a' 1000 ∧ Sz b' 1000)) := ⟨⟨ha, hb⟩, ⟨ha', hb'⟩⟩
 have KW : Hid (∀ w' : World, Below W.heap.size W w' → w'.cell? ⟨w.heap.size, 0, none⟩ = some (.bool n1) ∧ w'.cell? ⟨w.heap.size, 1, none⟩ = some (.slice o1 l1 c1) ∧ w'.cell? ⟨w.heap.size, 2, none⟩ = some (.slice p1 m1 k1) ∧ w'.cell? ⟨w.heap.size, 3, none⟩ = some (.bool n2) ∧ w'.cell? ⟨w.heap.size, 4, none⟩ = some (.slice o2 l2 c2) ∧ w'.cell? ⟨w.heap.size, 5, none⟩ = some (.slice p2 m2 k2) ∧ w'.cell? ⟨w.heap.size + 1, 0, none⟩ = some (.bool n3) ∧ w'.cell? ⟨w.heap.size + 1, 1, none⟩ = some (.slice o3 l3 c3) ∧ w'.cell? ⟨w.heap.size + 1, 2, none⟩ = some (.slice p3 m3 k3) ∧ w'.cell? ⟨w.heap.size + 1, 3, none⟩ = some (.bool n4) ∧ w'.cell? ⟨w.heap.size + 1, 4, none⟩ = some (.slice o4 l4 c4) ∧ w'.cell? ⟨w.heap.size + 1, 5, none⟩ = some (.slice p4 m4 k4)) := fun w' h => ⟨((hA).later h (by omega)).1 0 _ rfl, ((hA).later h (by omega)).1 1 _ rfl, ((hA).later h (by omega)).1 2 _ rfl, ((hA).later h (by omega)).1 3 _ rfl, ((hA).later h (by omega)).1 4 _ rfl, ((hA).later h (by omega)).1 5 _ rfl, ((hB).later h (by omega)).1 0 _ rfl, ((hB).later h (by omega)).1 1 _ rfl, ((hB).later h (by omega)).1 2 _ rfl, ((hB).later h (by omega)).1 3 _ rfl, ((hB).later h (by omega)).1 4 _ rfl, ((hB).later h (by omega)).1 5 _ rfl⟩
 clear hx hy hx' hy' ha hb ha' hb'
 go_enter Tryz.func40, Tryz.ntmps40
 go_upto_region 1 with fail
 rw [← hW]
 clear hW
 have KR : Hid (∀ X : World, Below W.heap.size W X → ∀ vs, (fun w' : World => w'.cell? ⟨w.heap.size, 0, none⟩ = some (.bool n1) ∧ w'.cell? ⟨w.heap.size, 1, none⟩ = some (.slice o1 l1 c1) ∧ w'.cell? ⟨w.heap.size, 2, none⟩ = some (.slice p1 m1 k1) ∧ w'.cell? ⟨w.heap.size, 3, none⟩ = some (.bool n2) ∧ w'.cell? ⟨w.heap.size, 4, none⟩ = some (.slice o2 l2 c2) ∧ w'.cell? ⟨w.heap.size, 5, none⟩ = some (.slice p2 m2 k2) ∧ w'.cell? ⟨w.heap.size + 1, 0, none⟩ = some (.bool n3) ∧ w'.cell? ⟨w.heap.size + 1, 1, none⟩ = some (.slice o3 l3 c3) ∧ w'.cell? ⟨w.heap.size + 1, 2, none⟩ = some (.slice p3 m3 k3) ∧ w'.cell? ⟨w.heap.size + 1, 3, none⟩ = some (.bool n4) ∧ w'.cell? ⟨w.heap.size + 1, 4, none⟩ = some (.slice o4 l4 c4) ∧ w'.cell? ⟨w.heap.size + 1, 5, none⟩ = some (.slice p4 m4 k4)) (putl X (w.heap.size + 1 + 1) 0 vs)) := fun X h vs => by
  obtain ⟨h0, h1, h2, h3, h4, h5, h6, h7, h8, h9, h10, h11⟩ := KW.out X h
  exact ⟨(putl_off (by omega) vs 0 X).trans h0, (putl_off (by omega) vs 0 X).trans h1, (putl_off (by omega) vs 0 X).trans h2, (putl_off (by omega) vs 0 X).trans h3, (putl_off (by omega) vs 0 X).trans h4, (putl_off (by omega) vs 0 X).trans h5, (putl_off (by omega) vs 0 X).trans h6, (putl_off (by omega) vs 0 X).trans h7, (putl_off (by omega) vs 0 X).trans h8, (putl_off (by omega) vs 0 X).trans h9, (putl_off (by omega) vs 0 X).trans h10, (putl_off (by omega) vs 0 X).trans h11⟩
 refine wp_region_noPanic ?_
 refine wp_region_held_drew (S := fun w' => (w'.cell? ⟨w.heap.size, 0, none⟩ = some (.bool n1) ∧ w'.cell? ⟨w.heap.size, 1, none⟩ = some (.slice o1 l1 c1) ∧ w'.cell? ⟨w.heap.size, 2, none⟩ = some (.slice p1 m1 k1) ∧ w'.cell? ⟨w.heap.size, 3, none⟩ = some (.bool n2) ∧ w'.cell? ⟨w.heap.size, 4, none⟩ = some (.slice o2 l2 c2) ∧ w'.cell? ⟨w.heap.size, 5, none⟩ = some (.slice p2 m2 k2) ∧ w'.cell? ⟨w.heap.size + 1, 0, none⟩ = some (.bool n3) ∧ w'.cell? ⟨w.heap.size + 1, 1, none⟩ = some (.slice o3 l3 c3) ∧ w'.cell? ⟨w.heap.size + 1, 2, none⟩ = some (.slice p3 m3 k3) ∧ w'.cell? ⟨w.heap.size + 1, 3, none⟩ = some (.bool n4) ∧ w'.cell? ⟨w.heap.size + 1, 4, none⟩ = some (.slice o4 l4 c4) ∧ w'.cell? ⟨w.heap.size + 1, 5, none⟩ = some (.slice p4 m4 k4))) (by kernel_rfl) (by (try dsimp only); exact KW.out _ (Below.refl _ _).drew) (fun hHeld => ?_)
 refine wpAnyH_take (i := 0) (oi := Oper.mk (some 5) _ _ _ _ _) (v := ?_) rfl (by decide +kernel) (by decide +kernel) (by decide +kernel) (fun _ _ _ h => h) (Or.inl ⟨by rfl, ?_⟩) (by assumption) ?_
 rotate_left
 ·
  (intro w hSw; (try dsimp only at hSw); go_simp <;> (try with_reducible rfl))
 (try simp only [Act.put, List.setIfInBounds_toArray, List.set_cons_zero, List.set_cons_succ])
 refine wpAnyH_take (i := 1) (oi := Oper.mk (some 6) _ _ _ _ _) (v := ?_) rfl (by decide +kernel) (by decide +kernel) (by decide +kernel) (fun _ _ _ h => h) (Or.inl ⟨by rfl, ?_⟩) (by assumption) ?_
 rotate_left
 ·
  (intro w hSw; (try dsimp only at hSw); go_simp <;> (try with_reducible rfl))
 (try simp only [Act.put, List.setIfInBounds_toArray, List.set_cons_zero, List.set_cons_succ])
 refine wpAnyH_take (i := 2) (oi := Oper.mk (some 7) _ _ _ _ _) (v := ?_) rfl (by decide +kernel) (by decide +kernel) (by decide +kernel) (fun _ _ _ h => h) (Or.inl ⟨by rfl, ?_⟩) (by assumption) ?_
 rotate_left
 ·
  (intro w hSw; (try dsimp only at hSw); go_simp <;> (try with_reducible rfl))
 (try simp only [Act.put, List.setIfInBounds_toArray, List.set_cons_zero, List.set_cons_succ])
 refine wpAnyH_take (i := 3) (oi := Oper.mk (some 8) _ _ _ _ _) (v := ?_) rfl (by decide +kernel) (by decide +kernel) (by decide +kernel) (fun _ _ _ h => h) (Or.inl ⟨by rfl, ?_⟩) (by assumption) ?_
 rotate_left
 ·
  (intro w hSw; (try dsimp only at hSw); go_simp <;> (try with_reducible rfl))
 (try simp only [Act.put, List.setIfInBounds_toArray, List.set_cons_zero, List.set_cons_succ])
 refine wpAnyH_take (i := 5) (oi := Oper.mk (some 10) _ _ _ _ _) (v := ?_) rfl (by decide +kernel) (by decide +kernel) (by decide +kernel) (fun _ _ _ h => h) (Or.inl ⟨by rfl, ?_⟩) (by assumption) ?_
 rotate_left
 ·
  (intro w hSw; (try dsimp only at hSw); go_simp <;> (try with_reducible rfl))
 (try simp only [Act.put, List.setIfInBounds_toArray, List.set_cons_zero, List.set_cons_succ])
 refine wpAnyH_take (i := 6) (oi := Oper.mk (some 11) _ _ _ _ _) (v := ?_) rfl (by decide +kernel) (by decide +kernel) (by decide +kernel) (fun _ _ _ h => h) (Or.inl ⟨by rfl, ?_⟩) (by assumption) ?_
 rotate_left
 ·
  (intro w hSw; (try dsimp only at hSw); go_simp <;> (try with_reducible rfl))
 (try simp only [Act.put, List.setIfInBounds_toArray, List.set_cons_zero, List.set_cons_succ])
 refine wpAnyH_take (i := 7) (oi := Oper.mk (some 12) _ _ _ _ _) (v := ?_) rfl (by decide +kernel) (by decide +kernel) (by decide +kernel) (fun _ _ _ h => h) (Or.inl ⟨by rfl, ?_⟩) (by assumption) ?_
 rotate_left
 ·
  (intro w hSw; (try dsimp only at hSw); go_simp <;> (try with_reducible rfl))
 (try simp only [Act.put, List.setIfInBounds_toArray, List.set_cons_zero, List.set_cons_succ])
 refine wpAnyH_take (i := 8) (oi := Oper.mk (some 13) _ _ _ _ _) (v := ?_) rfl (by decide +kernel) (by decide +kernel) (by decide +kernel) (fun _ _ _ h => h) (Or.inl ⟨by rfl, ?_⟩) (by assumption) ?_
 rotate_left
 ·
  (intro w hSw; (try dsimp only at hSw); go_simp <;> (try with_reducible rfl))
 (try simp only [Act.put, List.setIfInBounds_toArray, List.set_cons_zero, List.set_cons_succ])
 refine wpAnyH_ready (rs := [4]) (by decide +kernel) (by simp) ?_
 refine AllReadyH.cons (o := Oper.mk (some 9) _ _ _ _ _) rfl (fun K hK => ?_) AllReadyH.nil
 go_simp
 (go_at_call 35; refine (qplus_any n1 n3 o1 p1 o3 p3 l1 c1 m1 k1 l3 c3 m3 k3 a a' _ (HX.out.1.1.later (Below.refl _ _).drew) (HX.out.2.1.later (Below.refl _ _).drew) HC.out.1.1 HC.out.2.1).mono ?_; rintro e f1 ⟨n5, o5, l5, c5, p5, m5, k5, rfl, hr, hb⟩; have H1 : Hid (RatAt f1 n5 o5 l5 c5 p5 m5 k5 (a + a')) := hr; clear hr; have hbF1 : Below W.heap.size W f1 := bnext (Below.refl _ _).drew hb; clear hb)
 (try go_wp2_with fail)
 clear hHeld
 refine hK.out _ _ (by (try dsimp only); first | exact KW.out _ (Below.refl _ _).drew | exact KW.out _ (by assumption)) (fun hHeld => ?_)
 clear hK K
 (try simp only [Act.put, List.setIfInBounds_toArray, List.set_cons_zero, List.set_cons_succ])
 refine wpAnyH_ready (rs := [9]) (by decide +kernel) (by simp) ?_
 refine AllReadyH.cons (o := Oper.mk (some 14) _ _ _ _ _) rfl (fun K hK => ?_) AllReadyH.nil
 go_simp
 (go_at_call 35; refine (qplus_any n2 n4 o2 p2 o4 p4 l2 c2 m2 k2 l4 c4 m4 k4 b b' _ (HX.out.1.2.later hbF1) (HX.out.2.2.later hbF1) HC.out.1.2 HC.out.2.2).mono ?_; rintro e f2 ⟨n6, o6, l6, c6, p6, m6, k6, rfl, hr, hb⟩; have H2 : Hid (RatAt f2 n5 o5 l5 c5 p5 m5 k5 (a + a') ∧ RatAt f2 n6 o6 l6 c6 p6 m6 k6 (b + b')) := ⟨H1.out.later hb, hr⟩; clear hr; have hbF2 : Below W.heap.size W f2 := bnext hbF1 hb; clear hb)
 (try go_wp2_with fail)
 clear hHeld
 refine hK.out _ _ (by (try dsimp only); first | exact KW.out _ (Below.refl _ _).drew | exact KW.out _ (by assumption)) (fun hHeld => ?_)
 clear hK K
 (try simp only [Act.put, List.setIfInBounds_toArray, List.set_cons_zero, List.set_cons_succ])
 refine wpAnyH_take (i := 10) (oi := Oper.mk (some 15) _ _ _ _ _) (v := ?_) rfl (by decide +kernel) (by decide +kernel) (by decide +kernel) (fun _ _ _ h => h) (Or.inl ⟨by rfl, ?_⟩) (by assumption) ?_
 rotate_left
 ·
  (intro w hSw; (try dsimp only at hSw); go_simp <;> (try with_reducible rfl))
 (try simp only [Act.put, List.setIfInBounds_toArray, List.set_cons_zero, List.set_cons_succ])
 have hbW5 := hbF2
 have hF := hR.later hbW5 (by omega); have g6 := hF.2; have g0 := hF.1 0 _ rfl; have g1 := hF.1 1 _ rfl; have g2 := hF.1 2 _ rfl; have g3 := hF.1 3 _ rfl; have g4 := hF.1 4 _ rfl; have g5 := hF.1 5 _ rfl; clear hF
 refine wpAnyH_ready (rs := [11]) (by decide +kernel) (by simp) ?_
 refine AllReadyH.cons (o := Oper.mk none _ _ _ _ _) rfl (fun K hK => ?_) AllReadyH.nil
 go_simp
 clear hHeld
 refine hK.out _ _ (by (try dsimp only); exact KR.out _ hbF2 [.bool n5, .slice o5 l5 c5, .slice p5 m5 k5, .bool n6, .slice o6 l6 c6, .slice p6 m6 k6]) (fun hHeld => ?_)
 clear hK K
 (try simp only [Act.put, List.setIfInBounds_toArray, List.set_cons_zero, List.set_cons_succ])
 refine wpAnyH_done (by decide +kernel) ?_ _
 refine NoPanic.normal ?_
 go_wp2
 exact bodyPost_ret (v := .agg #[.bool n5, .slice o5 l5 c5, .slice p5 m5 k5, .bool n6, .slice o6 l6 c6, .slice p6 m6 k6]) (by simp [results, Tryz.results40, go_sem, g0, g1, g2, g3, g4, g5]) rfl
  ⟨_, _, _, _, _, _, _, _, _, _, _, _, _, _, rfl, (hR.later hbW5 (by omega)).rat (by simp [NoWord]) (ws := [.bool n5, .slice o5 l5 c5, .slice p5 m5 k5, .bool n6, .slice o6 l6 c6, .slice p6 m6 k6]) rfl H2.out.1, (hR.later hbW5 (by omega)).rat (by simp [NoWord]) (ws := [.bool n5, .slice o5 l5 c5, .slice p5 m5 k5, .bool n6, .slice o6 l6 c6, .slice p6 m6 k6]) rfl H2.out.2, putl_below (r := w.heap.size + 1 + 1) (by omega) [.bool n5, .slice o5 l5 c5, .slice p5 m5 k5, .bool n6, .slice o6 l6 c6, .slice p6 m6 k6] 0 _ (bnext hbW hbW5)⟩
end Go.Proofs.YthjkdnlbdhhmbaaGreatDoor
