/-
  A pack of walks and facts: DW.
-/
import Derived.Test.YthjkdnlbdhhmbaaGreatDoorPV05
import Derived.Lib.ItoaNum
set_option maxRecDepth 100000
set_option maxHeartbeats 40000000
set_option linter.unusedVariables false
set_option linter.unusedSimpArgs false
namespace Go.Proofs.YthjkdnlbdhhmbaaGreatDoor
open Go.RowKit
theorem bitLen_bounds {y : Nat} (h0 : 0 < y) (h1 : y < 18446744073709551616) : 1 ≤ Lib.bitLen y ∧ 2 ^ (Lib.bitLen y - 1) ≤ y ∧ y < 2 ^ Lib.bitLen y :=
 Lib.bitLenAux_bounds 64 y (by simpa using h1) (by omega)
theorem mask32 (a : Int) (h0 : 0 ≤ a) (h1 : a < 18446744073709551616) : bits .and .u64 a 4294967295 = a % 4294967296 := by
 obtain ⟨a, rfl⟩ := Int.eq_ofNat_of_zero_le h0
 rw [Mul64.maskN a (by omega)]; omega
theorem div_setup (hi lo y : Int) (h0 : 0 ≤ hi) (h1 : hi < y) (h2 : y < 18446744073709551616) (h3 : 0 ≤ lo) (h4 : lo < 18446744073709551616) :
  ∃ (B : Nat) (P Y u32 un10 : Int), 64 - (Lib.bitLen y.toNat : Int) = (B : Int) ∧ B < 64 ∧ P = 2 ^ B ∧ 0 < P ∧ IntKind.u64.wrap (y * 2 ^ B) = Y ∧ Y = y * P ∧ 9223372036854775808 ≤ Y ∧ Y < 18446744073709551616 ∧
   bits .or .u64 (IntKind.u64.wrap (hi * 2 ^ B)) (lo / 2 ^ (64 - B)) = u32 ∧ IntKind.u64.wrap (lo * 2 ^ B) = un10 ∧ 0 ≤ u32 ∧ u32 < Y ∧ 0 ≤ un10 ∧ un10 < 18446744073709551616 ∧ (hi * 18446744073709551616 + lo) * P = u32 * 18446744073709551616 + un10 := by
 obtain ⟨hi, rfl⟩ := Int.eq_ofNat_of_zero_le h0
 obtain ⟨lo, rfl⟩ := Int.eq_ofNat_of_zero_le h3
 obtain ⟨y, rfl⟩ := Int.eq_ofNat_of_zero_le (show 0 ≤ y by omega)
 obtain ⟨b1, b2, b3⟩ := bitLen_bounds (y := y) (by omega) (by omega)
 have b4 : Lib.bitLen y ≤ 64 := Lib.bitLen_le y 64 (by omega) (by omega)
 obtain ⟨B, hB⟩ : ∃ B, 64 - Lib.bitLen y = B := ⟨_, rfl⟩
 obtain ⟨l, hl⟩ : ∃ l, Lib.bitLen y = l := ⟨_, rfl⟩
 rw [hl] at b1 b2 b3 b4 hB
 obtain ⟨P, hP⟩ : ∃ P : Nat, 2 ^ B = P := ⟨_, rfl⟩
 obtain ⟨R, hR⟩ : ∃ R : Nat, 2 ^ (64 - B) = R := ⟨_, rfl⟩
 have hPR : P * R = 18446744073709551616 := by rw [← hP, ← hR, ← Nat.pow_add, show B + (64 - B) = 64 by omega]
 have hP0 : 0 < P := by rw [← hP]; exact Nat.two_pow_pos B
 have hR0 : 0 < R := by rw [← hR]; exact Nat.two_pow_pos _
 have hRl : R = 2 ^ l := by rw [← hR]; congr 1; omega
 have hyP : y * P < 18446744073709551616 := by
  have : y * P < R * P := Nat.mul_lt_mul_of_pos_right (by rw [hRl]; exact b3) hP0
  rw [Nat.mul_comm R P, hPR] at this; exact this
 have hyP2 : 9223372036854775808 ≤ y * P := by
  have e : 2 ^ (l - 1) * P = 9223372036854775808 := by rw [← hP, ← Nat.pow_add, show l - 1 + B = 63 by omega]
  have := Nat.mul_le_mul_right P b2
  rw [e] at this; exact this
 have hhP : (hi + 1) * P ≤ y * P := Nat.mul_le_mul_right P (by omega)
 have hhP' : hi * P + P ≤ y * P := by rw [Nat.add_mul, Nat.one_mul] at hhP; exact hhP
 have hlP : lo / R < P := by
  rw [Nat.div_lt_iff_lt_mul hR0, hPR]; omega
 have hlR : lo * P / 18446744073709551616 = lo / R := by
  rw [← hPR, Nat.mul_comm lo P, Nat.mul_div_mul_left _ _ hP0]
 have hor : (hi * P) ||| (lo / R) = hi * P + lo / R := by
  have := Nat.shiftLeft_add_eq_or_of_lt (i := B) (b := lo / R) (by rw [hP]; exact hlP) hi
  rw [Nat.shiftLeft_eq, hP] at this
  exact this.symm
 refine ⟨B, (P : Int), ((y * P : Nat) : Int), ((hi * P + lo / R : Nat) : Int), ((lo * P % 18446744073709551616 : Nat) : Int), ?_, by omega, ?_, by omega, ?_, Int.natCast_mul _ _, by omega, by omega, ?_, ?_, by omega, by omega, by omega, by omega, ?_⟩
 ·
  rw [Int.toNat_natCast, hl]; omega
 ·
  rw [← hP, Int.natCast_pow]; rfl
 ·
  have e : ((y : Int) * 2 ^ B) = ((y * P : Nat) : Int) := by rw [Int.natCast_mul, ← hP, Int.natCast_pow]; rfl
  rw [e, IntKind.wrap_u64]; omega
 ·
  have e : ((hi : Int) * 2 ^ B) = ((hi * P : Nat) : Int) := by rw [Int.natCast_mul, ← hP, Int.natCast_pow]; rfl
  have e2 : ((lo : Int) / 2 ^ (64 - B)) = ((lo / R : Nat) : Int) := by rw [Int.natCast_ediv, ← hR, Int.natCast_pow]; rfl
  rw [e, e2, IntKind.wrap_u64, Int.emod_eq_of_lt (by omega) (by omega), bits_or_u64_nat _ _ (by omega) (by omega), hor]
 ·
  have e : ((lo : Int) * 2 ^ B) = ((lo * P : Nat) : Int) := by rw [Int.natCast_mul, ← hP, Int.natCast_pow]; rfl
  rw [e, IntKind.wrap_u64]; omega
 ·
  have h5 := Nat.div_add_mod (lo * P) 18446744073709551616
  rw [hlR] at h5
  have e : ((hi : Int) * 18446744073709551616 + lo) * P = (((hi * P) * 18446744073709551616 + lo * P : Nat) : Int) := by
   rw [Int.natCast_add, Int.natCast_mul, Int.natCast_mul, Int.natCast_mul]; grind
  rw [e, ← h5]; omega
structure DSt (b1 b0 u v q r : Int) : Prop where
 eq : q * b1 + r = u
 r0 : 0 ≤ r
 r1 : r < 4294967296
 q0 : 0 ≤ q
 q1 : q ≤ 4294967297
 up : u * 4294967296 + v < (q + 1) * (b1 * 4294967296 + b0)
theorem DSt.start {b1 b0 u v : Int} (h1 : 2147483648 ≤ b1) (h2 : b1 < 4294967296) (h3 : 0 ≤ b0) (h4 : b0 < 4294967296) (hu : 0 ≤ u) (hu' : u < b1 * 4294967296 + b0) (hv : 0 ≤ v) (hv' : v < 4294967296) : DSt b1 b0 u v (u / b1) (u % b1) := by
 have e := Int.mul_ediv_add_emod u b1
 have r0 := Int.emod_nonneg u (show b1 ≠ 0 by omega)
 have r1 := Int.emod_lt_of_pos u (show 0 < b1 by omega)
 have q0 : 0 ≤ u / b1 := Int.ediv_nonneg hu (by omega)
 obtain ⟨q, hq⟩ : ∃ q, u / b1 = q := ⟨_, rfl⟩
 obtain ⟨r, hr⟩ : ∃ r, u % b1 = r := ⟨_, rfl⟩
 rw [hq, hr] at e; rw [hq] at q0 ⊢; rw [hr] at r0 r1 ⊢
 refine ⟨by rw [Int.mul_comm]; exact e, r0, by omega, q0, ?_, ?_⟩
 ·
  by_cases h : q ≤ 4294967297
  ·
   exact h
  ·
   exfalso
   have : b1 * 4294967298 ≤ b1 * q := Int.mul_le_mul_of_nonneg_left (by omega) (by omega)
   omega
 ·
  have e1 : (q + 1) * (b1 * 4294967296 + b0) = (b1 * q) * 4294967296 + b1 * 4294967296 + (q + 1) * b0 := by grind
  have e2 : 0 ≤ (q + 1) * b0 := Int.mul_nonneg (by omega) h3
  rw [e1]; omega
theorem DSt.less {b1 b0 u v q r : Int} (h : DSt b1 b0 u v q r) (h1 : 2147483648 ≤ b1) (h3 : 0 ≤ b0) (hu' : u < b1 * 4294967296 + b0) (hv : 0 ≤ v) (hv' : v < 4294967296) (hbig : 4294967296 ≤ q ∨ 4294967296 * r + v < q * b0) :
  (q - 1) * b1 + (r + b1) = u ∧ 0 ≤ q - 1 ∧ u * 4294967296 + v < (q - 1 + 1) * (b1 * 4294967296 + b0) ∧ q - 1 ≤ 4294967296 := by
 have e0 := h.eq
 have hq := h.q0
 have hq1 : 1 ≤ q := by
  rcases hbig with hb | hb
  ·
   omega
  ·
   by_cases h0 : q = 0
   ·
    subst h0; have := h.r0; simp only [Int.zero_mul] at hb; omega
   ·
    omega
 refine ⟨by grind, by omega, ?_, by have := h.q1; omega⟩
 rw [show q - 1 + 1 = q by omega]
 rcases hbig with hb | hb
 ·
  have : 4294967296 * (b1 * 4294967296 + b0) ≤ q * (b1 * 4294967296 + b0) := Int.mul_le_mul_of_nonneg_right hb (by omega)
  omega
 ·
  have e1 : q * (b1 * 4294967296 + b0) = (q * b1) * 4294967296 + q * b0 := by grind
  rw [e1]; omega
theorem DSt.done {b1 b0 u v q r : Int} (h : DSt b1 b0 u v q r) (hok : q * b0 ≤ 4294967296 * r + v) : q * (b1 * 4294967296 + b0) ≤ u * 4294967296 + v := by
 have e0 := h.eq
 have e1 : q * (b1 * 4294967296 + b0) = (q * b1) * 4294967296 + q * b0 := by grind
 rw [e1]; omega
theorem quot_unique {D N q : Int} (hD : 0 < D) (h1 : q * D ≤ N) (h2 : N < (q + 1) * D) : q = N / D ∧ N - q * D = N % D := by
 have e1 : N / D = q := by
  rw [Int.ediv_eq_iff_of_pos hD]
  exact ⟨h1, by rw [Int.add_mul, Int.one_mul] at h2; exact h2⟩
 have := Int.mul_ediv_add_emod N D
 rw [e1] at this
 refine ⟨e1.symm, ?_⟩
 rw [Int.mul_comm] at this; omega
theorem brk_done {b1 b0 Y U V q r : Int} (hY : Y = b1 * 4294967296 + b0) (h : (q - 1) * b1 + (r + b1) = U ∧ 0 ≤ q - 1 ∧ U * 4294967296 + V < (q - 1 + 1) * (b1 * 4294967296 + b0) ∧ q - 1 ≤ 4294967296) (h0 : 0 ≤ b0) (h0' : b0 < 4294967296) (hV : 0 ≤ V) (hr : 4294967296 ≤ r + b1) :
  (q - 1) * Y ≤ U * 4294967296 + V ∧ U * 4294967296 + V < (q - 1 + 1) * Y := by
 obtain ⟨e1, e2, e3, e4⟩ := h
 refine ⟨?_, by rw [hY]; exact e3⟩
 have e5 : (q - 1) * Y = ((q - 1) * b1) * 4294967296 + (q - 1) * b0 := by rw [hY]; grind
 have e6 : (q - 1) * b0 ≤ 4294967296 * 4294967295 := Int.mul_le_mul e4 (by omega) h0 (by decide)
 rw [e5]; omega
theorem digit_rule {Y U V q : Int} (h1 : q * Y ≤ U * 4294967296 + V) (h2 : U * 4294967296 + V < (q + 1) * Y) (hY1 : 9223372036854775808 ≤ Y) (hY2 : Y < 18446744073709551616) (hU : U < Y) (hV : 0 ≤ V) (hV' : V < 4294967296) :
  ∃ R, IntKind.u64.wrap (IntKind.u64.wrap (IntKind.u64.wrap (U * 4294967296) + V) - IntKind.u64.wrap (q * Y)) = R ∧ 0 ≤ R ∧ R < Y ∧ q < 4294967296 ∧ True ∧ U * 4294967296 + V - q * Y = R := by
 have e : (q + 1) * Y = q * Y + Y := by grind
 rw [e] at h2
 have hq : q < 4294967296 := by
  by_cases h : q < 4294967296
  ·
   exact h
  ·
   have : 4294967296 * Y ≤ q * Y := Int.mul_le_mul_of_nonneg_right (by omega) (by omega)
   omega
 refine ⟨U * 4294967296 + V - q * Y, ?_, by omega, by omega, hq, trivial, rfl⟩
 obtain ⟨T, hT⟩ : ∃ T, q * Y = T := ⟨_, rfl⟩
 rw [hT] at h1 h2 ⊢
 rw [IntKind.wrap_u64, IntKind.wrap_u64, IntKind.wrap_u64, IntKind.wrap_u64]; omega
theorem div_finish {hi lo y P Y u un10 v1 v0 qa qb R1 R2 : Int} (hY : Y = y * P) (hP : 0 < P) (hy : 0 < y) (he : (hi * 18446744073709551616 + lo) * P = u * 18446744073709551616 + un10) (hl : un10 = v1 * 4294967296 + v0)
  (h1 : u * 4294967296 + v1 - qa * Y = R1) (h2 : R1 * 4294967296 + v0 - qb * Y = R2) (hR0 : 0 ≤ R2) (hR1 : R2 < Y) :
  (hi * 18446744073709551616 + lo) / y = qa * 4294967296 + qb ∧ (hi * 18446744073709551616 + lo) % y = R2 / P := by
 obtain ⟨X, hX⟩ : ∃ X, hi * 18446744073709551616 + lo = X := ⟨_, rfl⟩
 rw [hX] at he ⊢
 have e1 : R2 = (X - (qa * 4294967296 + qb) * y) * P := by
  have : (X - (qa * 4294967296 + qb) * y) * P = X * P - (qa * 4294967296 + qb) * (y * P) := by grind
  rw [this, ← hY, he, hl]; grind
 obtain ⟨Z, hZ⟩ : ∃ Z, X - (qa * 4294967296 + qb) * y = Z := ⟨_, rfl⟩
 rw [hZ] at e1
 have e2 : R2 / P = Z := by rw [e1]; exact Int.mul_ediv_cancel _ (by omega)
 have z0 : 0 ≤ Z := by rw [← e2]; exact Int.ediv_nonneg hR0 (by omega)
 have z1 : Z < y := by
  rw [e1, hY] at hR1
  exact Int.lt_of_mul_lt_mul_right hR1 (by omega)
 have := quot_unique (D := y) (N := X) (q := qa * 4294967296 + qb) hy (by omega) (by rw [Int.add_mul (qa * 4294967296 + qb) 1 y]; omega)
 rw [e2]
 exact ⟨this.1.symm, by rw [← this.2]; exact hZ⟩
theorem ret_uu {a b c d : Int} (h1 : a = b) (h2 : c = d) : Ending.returned (.tuple #[.int .u64 a, .int .u64 c]) = .returned (.tuple #[.int .u64 b, .int .u64 d]) := by rw [h1, h2]
theorem div64_pos (hi lo y : Int) (w : World) (h0 : 0 < hi) (h1 : hi < y) (h2 : y < 18446744073709551616) (h3 : 0 ≤ lo) (h4 : lo < 18446744073709551616) :
  Calls Tryz.prog 142 #[.int .u64 hi, .int .u64 lo, .int .u64 y] w fun e w' => e = .returned (.tuple #[.int .u64 ((hi * 18446744073709551616 + lo) / y), .int .u64 ((hi * 18446744073709551616 + lo) % y)]) ∧ w' = w := by
 obtain ⟨B, P, Y, u, un10, hB, hB64, hP, hP0, hwY, hY, hY1, hY2, hor, hwl, hu0, hu1, hl0, hl1, heq⟩ := div_setup hi lo y (by omega) h1 h2 h3 h4
 have hcon := leading_any y w (by omega) (by omega)
 rw [hB] at hcon
 have hy0 : (y == 0) = false := by simp; omega
 have hh0 : (hi == 0) = false := by simp; omega
 have hyh : ¬ y ≤ hi := by omega
 obtain ⟨b1, hb1⟩ : ∃ b1, Y / 4294967296 = b1 := ⟨_, rfl⟩
 obtain ⟨b0, hb0⟩ : ∃ b0, Y % 4294967296 = b0 := ⟨_, rfl⟩
 obtain ⟨v1, hv1⟩ : ∃ v1, un10 / 4294967296 = v1 := ⟨_, rfl⟩
 obtain ⟨v0, hv0⟩ : ∃ v0, un10 % 4294967296 = v0 := ⟨_, rfl⟩
 have hYb : Y = b1 * 4294967296 + b0 := by omega
 have hmY : bits .and .u64 Y 4294967295 = b0 := by rw [mask32 Y (by omega) hY2, hb0]
 have hml : bits .and .u64 un10 4294967295 = v0 := by rw [mask32 un10 hl0 hl1, hv0]
 have c1 : 2147483648 ≤ b1 := by omega
 have c2 : b1 < 4294967296 := by omega
 have c3 : 0 ≤ b0 ∧ b0 < 4294967296 := by omega
 have c4 : 0 ≤ v1 ∧ v1 < 4294967296 := by omega
 have c5 : 0 ≤ v0 ∧ v0 < 4294967296 := by omega
 have hst := DSt.start c1 c2 c3.1 c3.2 hu0 (hYb ▸ hu1) c4.1 c4.2
 obtain ⟨m, hm⟩ : ∃ m, u / b1 * b1 = m := ⟨_, rfl⟩
 have hra : u % b1 = u - m := by
  have := Int.mul_ediv_add_emod u b1
  rw [Int.mul_comm, hm] at this; omega
 rw [hra] at hst
 have d1 : 0 ≤ u - m := hst.r0
 have d2 : 0 ≤ m := by rw [← hm]; exact Int.mul_nonneg hst.q0 (by omega)
 have d3 := hst.q0
 have d4 := hst.q1
 have HF : Hid ((Y = y * P ∧ P = 2 ^ B ∧ 0 < P) ∧ Y = b1 * 4294967296 + b0 ∧ (hi * 18446744073709551616 + lo) * P = u * 18446744073709551616 + un10 ∧ un10 = v1 * 4294967296 + v0) := ⟨⟨hY, hP, hP0⟩, hYb, heq, by omega⟩
 have HS : Hid (DSt b1 b0 u v1 (u / b1) (u - m)) := hst
 have hb1p : ¬ b1 = 0 := by omega
 clear hst hYb heq hY hP hra hB hb0 hv0
 obtain ⟨c31, c32⟩ := c3
 obtain ⟨c41, c42⟩ := c4
 obtain ⟨c51, c52⟩ := c5
 have hu64 : u < 18446744073709551616 := by omega
 go_enter Tryz.func142, Tryz.ntmps142
 go_wp2_with (go_at_call 135; refine hcon.mono ?_; rintro e w' ⟨rfl, rfl⟩)
 clear hwY hor hwl hb1 hmY hv1 hml hm hcon
 go_loop [15, 16] (fun a b => ∃ q r : Int, a = .int .u64 q ∧ b = .int .u64 r ∧ DSt b1 b0 u v1 q r) (fun a _ => (intOf a).toNat)
 case atStart => exact ⟨_, _, rfl, rfl, HS.out⟩
 case round =>
  obtain ⟨qa, ra, rfl, rfl, hst⟩ := hrel
  clear d1 d2 d3 d4 HS
  have HV : Hid (0 ≤ v1) := c41
  have HS : Hid (DSt b1 b0 u v1 qa ra) := hst
  have d1 := hst.r0
  have d2 := hst.r1
  have d3 := hst.q0
  have d4 := hst.q1
  clear hst
  by_cases hq : 4294967296 ≤ qa
  ·
   have HL : Hid ((qa - 1) * b1 + (ra + b1) = u ∧ 0 ≤ qa - 1 ∧ u * 4294967296 + v1 < (qa - 1 + 1) * (b1 * 4294967296 + b0) ∧ qa - 1 ≤ 4294967296) := HS.out.less c1 c31 (HF.out.2.1 ▸ hu1) c41 c42 (Or.inl hq)
   by_cases hr : 4294967296 ≤ ra + b1
   ·
    have HD : Hid ((qa - 1) * Y ≤ u * 4294967296 + v1 ∧ u * 4294967296 + v1 < (qa - 1 + 1) * Y) := brk_done HF.out.2.1 HL.out c31 c32 HV.out hr
    clear HL HS
    have fq1 : 0 ≤ qa - 1 := by omega
    obtain ⟨R1, h21, f1, f2, f3, f4, f5⟩ := digit_rule HD.out.1 HD.out.2 hY1 hY2 hu1 c41 c42
    have HQ1 : Hid (u * 4294967296 + v1 - (qa - 1) * Y = R1) := f5
    have hst := DSt.start c1 c2 c31 c32 f1 (HF.out.2.1 ▸ f2) c51 c52
    obtain ⟨m, hm⟩ : ∃ m, R1 / b1 * b1 = m := ⟨_, rfl⟩
    have hra : R1 % b1 = R1 - m := by
     have := Int.mul_ediv_add_emod R1 b1
     rw [Int.mul_comm, hm] at this; omega
    rw [hra] at hst
    have d1' : 0 ≤ R1 - m := hst.r0
    have d2' : 0 ≤ m := by rw [← hm]; exact Int.mul_nonneg hst.q0 (by omega)
    have d3' := hst.q0
    have d4' := hst.q1
    have HS2 : Hid (DSt b1 b0 R1 v0 (R1 / b1) (R1 - m)) := hst
    have f6 : R1 < 18446744073709551616 := by omega
    clear hst hra f5 HD HV
    go_wp2
    clear h21 hm
    go_loop [18, 16] (fun a b => ∃ q r : Int, a = .int .u64 q ∧ b = .int .u64 r ∧ DSt b1 b0 R1 v0 q r) (fun a _ => (intOf a).toNat)
    case atStart => exact ⟨_, _, rfl, rfl, HS2.out⟩
    case round =>
     obtain ⟨qb, rb, rfl, rfl, hst⟩ := hrel
     clear d1' d2' d3' d4' HS2
     have HV : Hid (0 ≤ v0) := c51
     have HS : Hid (DSt b1 b0 R1 v0 qb rb) := hst
     have d1 := hst.r0
     have d2 := hst.r1
     have d3 := hst.q0
     have d4 := hst.q1
     clear hst
     by_cases hq : 4294967296 ≤ qb
     ·
      have HL : Hid ((qb - 1) * b1 + (rb + b1) = R1 ∧ 0 ≤ qb - 1 ∧ R1 * 4294967296 + v0 < (qb - 1 + 1) * (b1 * 4294967296 + b0) ∧ qb - 1 ≤ 4294967296) := HS.out.less c1 c31 (HF.out.2.1 ▸ f2) c51 c52 (Or.inl hq)
      by_cases hr : 4294967296 ≤ rb + b1
      ·
       have HD : Hid ((qb - 1) * Y ≤ R1 * 4294967296 + v0 ∧ R1 * 4294967296 + v0 < (qb - 1 + 1) * Y) := brk_done HF.out.2.1 HL.out c31 c32 HV.out hr
       clear HL HS
       have fq2 : 0 ≤ qb - 1 := by omega
       obtain ⟨R2, h22, g1, g2, g3, _, g5⟩ := digit_rule HD.out.1 HD.out.2 hY1 hY2 f2 c51 c52
       have HE := div_finish HF.out.1.1 HF.out.1.2.2 (by omega) HF.out.2.2.1 HF.out.2.2.2 HQ1.out g5 g1 g2
       rw [HF.out.1.2.1] at HE
       have HEE : Hid _ := HE
       clear HE HD HV g5
       go_wp2
       go_ret2
       exact ⟨ret_uu HEE.out.1.symm HEE.out.2.symm, rfl⟩
      ·
       go_wp2
       go_round
       case rel => exact ⟨qb - 1, rb + b1, rfl, rfl, HL.out.1, by omega, by omega, HL.out.2.1, by have := HL.out.2.2.2; omega, HL.out.2.2.1⟩
       case measure => simp [intOf]; omega
     ·
      obtain ⟨m2, hm2⟩ : ∃ m2, qb * b0 = m2 := ⟨_, rfl⟩
      have e0 : 0 ≤ m2 := by rw [← hm2]; exact Int.mul_nonneg d3 c31
      have e1 : m2 ≤ 4294967295 * 4294967295 := by rw [← hm2]; exact Int.mul_le_mul (by omega) (by omega) c31 (by decide)
      by_cases hc : 4294967296 * rb + v0 < m2
      ·
       have HL : Hid ((qb - 1) * b1 + (rb + b1) = R1 ∧ 0 ≤ qb - 1 ∧ R1 * 4294967296 + v0 < (qb - 1 + 1) * (b1 * 4294967296 + b0) ∧ qb - 1 ≤ 4294967296) := HS.out.less c1 c31 (HF.out.2.1 ▸ f2) c51 c52 (Or.inr (by rw [hm2]; exact hc))
       have hq1 : 1 ≤ qb := by have := HL.out.2.1; omega
       by_cases hr : 4294967296 ≤ rb + b1
       ·
        have HD : Hid ((qb - 1) * Y ≤ R1 * 4294967296 + v0 ∧ R1 * 4294967296 + v0 < (qb - 1 + 1) * Y) := brk_done HF.out.2.1 HL.out c31 c32 HV.out hr
        clear HL HS
        have fq2 : 0 ≤ qb - 1 := by omega
        obtain ⟨R2, h22, g1, g2, g3, _, g5⟩ := digit_rule HD.out.1 HD.out.2 hY1 hY2 f2 c51 c52
        have HE := div_finish HF.out.1.1 HF.out.1.2.2 (by omega) HF.out.2.2.1 HF.out.2.2.2 HQ1.out g5 g1 g2
        rw [HF.out.1.2.1] at HE
        have HEE : Hid _ := HE
        clear HE HD HV g5
        go_wp2
        go_ret2
        exact ⟨ret_uu HEE.out.1.symm HEE.out.2.symm, rfl⟩
       ·
        go_wp2
        go_round
        case rel => exact ⟨qb - 1, rb + b1, rfl, rfl, HL.out.1, by omega, by omega, HL.out.2.1, by have := HL.out.2.2.2; omega, HL.out.2.2.1⟩
        case measure => simp [intOf]; omega
      ·
       have HD : Hid (qb * Y ≤ R1 * 4294967296 + v0 ∧ R1 * 4294967296 + v0 < (qb + 1) * Y) := ⟨by rw [HF.out.2.1]; exact HS.out.done (by rw [hm2]; omega), by rw [HF.out.2.1]; exact HS.out.up⟩
       clear HS
       have fq2 : 0 ≤ qb := by omega
       obtain ⟨R2, h22, g1, g2, g3, _, g5⟩ := digit_rule HD.out.1 HD.out.2 hY1 hY2 f2 c51 c52
       have HE := div_finish HF.out.1.1 HF.out.1.2.2 (by omega) HF.out.2.2.1 HF.out.2.2.2 HQ1.out g5 g1 g2
       rw [HF.out.1.2.1] at HE
       have HEE : Hid _ := HE
       clear HE HD HV g5
       go_wp2
       go_ret2
       exact ⟨ret_uu HEE.out.1.symm HEE.out.2.symm, rfl⟩
   ·
    go_wp2
    go_round
    case rel => exact ⟨qa - 1, ra + b1, rfl, rfl, HL.out.1, by omega, by omega, HL.out.2.1, by have := HL.out.2.2.2; omega, HL.out.2.2.1⟩
    case measure => simp [intOf]; omega
  ·
   obtain ⟨m2, hm2⟩ : ∃ m2, qa * b0 = m2 := ⟨_, rfl⟩
   have e0 : 0 ≤ m2 := by rw [← hm2]; exact Int.mul_nonneg d3 c31
   have e1 : m2 ≤ 4294967295 * 4294967295 := by rw [← hm2]; exact Int.mul_le_mul (by omega) (by omega) c31 (by decide)
   by_cases hc : 4294967296 * ra + v1 < m2
   ·
    have HL : Hid ((qa - 1) * b1 + (ra + b1) = u ∧ 0 ≤ qa - 1 ∧ u * 4294967296 + v1 < (qa - 1 + 1) * (b1 * 4294967296 + b0) ∧ qa - 1 ≤ 4294967296) := HS.out.less c1 c31 (HF.out.2.1 ▸ hu1) c41 c42 (Or.inr (by rw [hm2]; exact hc))
    have hq1 : 1 ≤ qa := by have := HL.out.2.1; omega
    by_cases hr : 4294967296 ≤ ra + b1
    ·
     have HD : Hid ((qa - 1) * Y ≤ u * 4294967296 + v1 ∧ u * 4294967296 + v1 < (qa - 1 + 1) * Y) := brk_done HF.out.2.1 HL.out c31 c32 HV.out hr
     clear HL HS
     have fq1 : 0 ≤ qa - 1 := by omega
     obtain ⟨R1, h21, f1, f2, f3, f4, f5⟩ := digit_rule HD.out.1 HD.out.2 hY1 hY2 hu1 c41 c42
     have HQ1 : Hid (u * 4294967296 + v1 - (qa - 1) * Y = R1) := f5
     have hst := DSt.start c1 c2 c31 c32 f1 (HF.out.2.1 ▸ f2) c51 c52
     obtain ⟨m, hm⟩ : ∃ m, R1 / b1 * b1 = m := ⟨_, rfl⟩
     have hra : R1 % b1 = R1 - m := by
      have := Int.mul_ediv_add_emod R1 b1
      rw [Int.mul_comm, hm] at this; omega
     rw [hra] at hst
     have d1' : 0 ≤ R1 - m := hst.r0
     have d2' : 0 ≤ m := by rw [← hm]; exact Int.mul_nonneg hst.q0 (by omega)
     have d3' := hst.q0
     have d4' := hst.q1
     have HS2 : Hid (DSt b1 b0 R1 v0 (R1 / b1) (R1 - m)) := hst
     have f6 : R1 < 18446744073709551616 := by omega
     clear hst hra f5 HD HV
     go_wp2
     clear h21 hm
     go_loop [18, 16] (fun a b => ∃ q r : Int, a = .int .u64 q ∧ b = .int .u64 r ∧ DSt b1 b0 R1 v0 q r) (fun a _ => (intOf a).toNat)
     case atStart => exact ⟨_, _, rfl, rfl, HS2.out⟩
     case round =>
      obtain ⟨qb, rb, rfl, rfl, hst⟩ := hrel
      clear d1' d2' d3' d4' HS2
      have HV : Hid (0 ≤ v0) := c51
      have HS : Hid (DSt b1 b0 R1 v0 qb rb) := hst
      have d1 := hst.r0
      have d2 := hst.r1
      have d3 := hst.q0
      have d4 := hst.q1
      clear hst
      by_cases hq : 4294967296 ≤ qb
      ·
       have HL : Hid ((qb - 1) * b1 + (rb + b1) = R1 ∧ 0 ≤ qb - 1 ∧ R1 * 4294967296 + v0 < (qb - 1 + 1) * (b1 * 4294967296 + b0) ∧ qb - 1 ≤ 4294967296) := HS.out.less c1 c31 (HF.out.2.1 ▸ f2) c51 c52 (Or.inl hq)
       by_cases hr : 4294967296 ≤ rb + b1
       ·
        have HD : Hid ((qb - 1) * Y ≤ R1 * 4294967296 + v0 ∧ R1 * 4294967296 + v0 < (qb - 1 + 1) * Y) := brk_done HF.out.2.1 HL.out c31 c32 HV.out hr
        clear HL HS
        have fq2 : 0 ≤ qb - 1 := by omega
        obtain ⟨R2, h22, g1, g2, g3, _, g5⟩ := digit_rule HD.out.1 HD.out.2 hY1 hY2 f2 c51 c52
        have HE := div_finish HF.out.1.1 HF.out.1.2.2 (by omega) HF.out.2.2.1 HF.out.2.2.2 HQ1.out g5 g1 g2
        rw [HF.out.1.2.1] at HE
        have HEE : Hid _ := HE
        clear HE HD HV g5
        go_wp2
        go_ret2
        exact ⟨ret_uu HEE.out.1.symm HEE.out.2.symm, rfl⟩
       ·
        go_wp2
        go_round
        case rel => exact ⟨qb - 1, rb + b1, rfl, rfl, HL.out.1, by omega, by omega, HL.out.2.1, by have := HL.out.2.2.2; omega, HL.out.2.2.1⟩
        case measure => simp [intOf]; omega
      ·
       obtain ⟨m2, hm2⟩ : ∃ m2, qb * b0 = m2 := ⟨_, rfl⟩
       have e0 : 0 ≤ m2 := by rw [← hm2]; exact Int.mul_nonneg d3 c31
       have e1 : m2 ≤ 4294967295 * 4294967295 := by rw [← hm2]; exact Int.mul_le_mul (by omega) (by omega) c31 (by decide)
       by_cases hc : 4294967296 * rb + v0 < m2
       ·
        have HL : Hid ((qb - 1) * b1 + (rb + b1) = R1 ∧ 0 ≤ qb - 1 ∧ R1 * 4294967296 + v0 < (qb - 1 + 1) * (b1 * 4294967296 + b0) ∧ qb - 1 ≤ 4294967296) := HS.out.less c1 c31 (HF.out.2.1 ▸ f2) c51 c52 (Or.inr (by rw [hm2]; exact hc))
        have hq1 : 1 ≤ qb := by have := HL.out.2.1; omega
        by_cases hr : 4294967296 ≤ rb + b1
        ·
         have HD : Hid ((qb - 1) * Y ≤ R1 * 4294967296 + v0 ∧ R1 * 4294967296 + v0 < (qb - 1 + 1) * Y) := brk_done HF.out.2.1 HL.out c31 c32 HV.out hr
         clear HL HS
         have fq2 : 0 ≤ qb - 1 := by omega
         obtain ⟨R2, h22, g1, g2, g3, _, g5⟩ := digit_rule HD.out.1 HD.out.2 hY1 hY2 f2 c51 c52
         have HE := div_finish HF.out.1.1 HF.out.1.2.2 (by omega) HF.out.2.2.1 HF.out.2.2.2 HQ1.out g5 g1 g2
         rw [HF.out.1.2.1] at HE
         have HEE : Hid _ := HE
         clear HE HD HV g5
         go_wp2
         go_ret2
         exact ⟨ret_uu HEE.out.1.symm HEE.out.2.symm, rfl⟩
        ·
         go_wp2
         go_round
         case rel => exact ⟨qb - 1, rb + b1, rfl, rfl, HL.out.1, by omega, by omega, HL.out.2.1, by have := HL.out.2.2.2; omega, HL.out.2.2.1⟩
         case measure => simp [intOf]; omega
       ·
        have HD : Hid (qb * Y ≤ R1 * 4294967296 + v0 ∧ R1 * 4294967296 + v0 < (qb + 1) * Y) := ⟨by rw [HF.out.2.1]; exact HS.out.done (by rw [hm2]; omega), by rw [HF.out.2.1]; exact HS.out.up⟩
        clear HS
        have fq2 : 0 ≤ qb := by omega
        obtain ⟨R2, h22, g1, g2, g3, _, g5⟩ := digit_rule HD.out.1 HD.out.2 hY1 hY2 f2 c51 c52
        have HE := div_finish HF.out.1.1 HF.out.1.2.2 (by omega) HF.out.2.2.1 HF.out.2.2.2 HQ1.out g5 g1 g2
        rw [HF.out.1.2.1] at HE
        have HEE : Hid _ := HE
        clear HE HD HV g5
        go_wp2
        go_ret2
        exact ⟨ret_uu HEE.out.1.symm HEE.out.2.symm, rfl⟩
    ·
     go_wp2
     go_round
     case rel => exact ⟨qa - 1, ra + b1, rfl, rfl, HL.out.1, by omega, by omega, HL.out.2.1, by have := HL.out.2.2.2; omega, HL.out.2.2.1⟩
     case measure => simp [intOf]; omega
   ·
    have HD : Hid (qa * Y ≤ u * 4294967296 + v1 ∧ u * 4294967296 + v1 < (qa + 1) * Y) := ⟨by rw [HF.out.2.1]; exact HS.out.done (by rw [hm2]; omega), by rw [HF.out.2.1]; exact HS.out.up⟩
    clear HS
    have fq1 : 0 ≤ qa := by omega
    obtain ⟨R1, h21, f1, f2, f3, f4, f5⟩ := digit_rule HD.out.1 HD.out.2 hY1 hY2 hu1 c41 c42
    have HQ1 : Hid (u * 4294967296 + v1 - (qa) * Y = R1) := f5
    have hst := DSt.start c1 c2 c31 c32 f1 (HF.out.2.1 ▸ f2) c51 c52
    obtain ⟨m, hm⟩ : ∃ m, R1 / b1 * b1 = m := ⟨_, rfl⟩
    have hra : R1 % b1 = R1 - m := by
     have := Int.mul_ediv_add_emod R1 b1
     rw [Int.mul_comm, hm] at this; omega
    rw [hra] at hst
    have d1' : 0 ≤ R1 - m := hst.r0
    have d2' : 0 ≤ m := by rw [← hm]; exact Int.mul_nonneg hst.q0 (by omega)
    have d3' := hst.q0
    have d4' := hst.q1
    have HS2 : Hid (DSt b1 b0 R1 v0 (R1 / b1) (R1 - m)) := hst
    have f6 : R1 < 18446744073709551616 := by omega
    clear hst hra f5 HD HV
    go_wp2
    clear h21 hm
    go_loop [18, 16] (fun a b => ∃ q r : Int, a = .int .u64 q ∧ b = .int .u64 r ∧ DSt b1 b0 R1 v0 q r) (fun a _ => (intOf a).toNat)
    case atStart => exact ⟨_, _, rfl, rfl, HS2.out⟩
    case round =>
     obtain ⟨qb, rb, rfl, rfl, hst⟩ := hrel
     clear d1' d2' d3' d4' HS2
     have HV : Hid (0 ≤ v0) := c51
     have HS : Hid (DSt b1 b0 R1 v0 qb rb) := hst
     have d1 := hst.r0
     have d2 := hst.r1
     have d3 := hst.q0
     have d4 := hst.q1
     clear hst
     by_cases hq : 4294967296 ≤ qb
     ·
      have HL : Hid ((qb - 1) * b1 + (rb + b1) = R1 ∧ 0 ≤ qb - 1 ∧ R1 * 4294967296 + v0 < (qb - 1 + 1) * (b1 * 4294967296 + b0) ∧ qb - 1 ≤ 4294967296) := HS.out.less c1 c31 (HF.out.2.1 ▸ f2) c51 c52 (Or.inl hq)
      by_cases hr : 4294967296 ≤ rb + b1
      ·
       have HD : Hid ((qb - 1) * Y ≤ R1 * 4294967296 + v0 ∧ R1 * 4294967296 + v0 < (qb - 1 + 1) * Y) := brk_done HF.out.2.1 HL.out c31 c32 HV.out hr
       clear HL HS
       have fq2 : 0 ≤ qb - 1 := by omega
       obtain ⟨R2, h22, g1, g2, g3, _, g5⟩ := digit_rule HD.out.1 HD.out.2 hY1 hY2 f2 c51 c52
       have HE := div_finish HF.out.1.1 HF.out.1.2.2 (by omega) HF.out.2.2.1 HF.out.2.2.2 HQ1.out g5 g1 g2
       rw [HF.out.1.2.1] at HE
       have HEE : Hid _ := HE
       clear HE HD HV g5
       go_wp2
       go_ret2
       exact ⟨ret_uu HEE.out.1.symm HEE.out.2.symm, rfl⟩
      ·
       go_wp2
       go_round
       case rel => exact ⟨qb - 1, rb + b1, rfl, rfl, HL.out.1, by omega, by omega, HL.out.2.1, by have := HL.out.2.2.2; omega, HL.out.2.2.1⟩
       case measure => simp [intOf]; omega
     ·
      obtain ⟨m2, hm2⟩ : ∃ m2, qb * b0 = m2 := ⟨_, rfl⟩
      have e0 : 0 ≤ m2 := by rw [← hm2]; exact Int.mul_nonneg d3 c31
      have e1 : m2 ≤ 4294967295 * 4294967295 := by rw [← hm2]; exact Int.mul_le_mul (by omega) (by omega) c31 (by decide)
      by_cases hc : 4294967296 * rb + v0 < m2
      ·
       have HL : Hid ((qb - 1) * b1 + (rb + b1) = R1 ∧ 0 ≤ qb - 1 ∧ R1 * 4294967296 + v0 < (qb - 1 + 1) * (b1 * 4294967296 + b0) ∧ qb - 1 ≤ 4294967296) := HS.out.less c1 c31 (HF.out.2.1 ▸ f2) c51 c52 (Or.inr (by rw [hm2]; exact hc))
       have hq1 : 1 ≤ qb := by have := HL.out.2.1; omega
       by_cases hr : 4294967296 ≤ rb + b1
       ·
        have HD : Hid ((qb - 1) * Y ≤ R1 * 4294967296 + v0 ∧ R1 * 4294967296 + v0 < (qb - 1 + 1) * Y) := brk_done HF.out.2.1 HL.out c31 c32 HV.out hr
        clear HL HS
        have fq2 : 0 ≤ qb - 1 := by omega
        obtain ⟨R2, h22, g1, g2, g3, _, g5⟩ := digit_rule HD.out.1 HD.out.2 hY1 hY2 f2 c51 c52
        have HE := div_finish HF.out.1.1 HF.out.1.2.2 (by omega) HF.out.2.2.1 HF.out.2.2.2 HQ1.out g5 g1 g2
        rw [HF.out.1.2.1] at HE
        have HEE : Hid _ := HE
        clear HE HD HV g5
        go_wp2
        go_ret2
        exact ⟨ret_uu HEE.out.1.symm HEE.out.2.symm, rfl⟩
       ·
        go_wp2
        go_round
        case rel => exact ⟨qb - 1, rb + b1, rfl, rfl, HL.out.1, by omega, by omega, HL.out.2.1, by have := HL.out.2.2.2; omega, HL.out.2.2.1⟩
        case measure => simp [intOf]; omega
      ·
       have HD : Hid (qb * Y ≤ R1 * 4294967296 + v0 ∧ R1 * 4294967296 + v0 < (qb + 1) * Y) := ⟨by rw [HF.out.2.1]; exact HS.out.done (by rw [hm2]; omega), by rw [HF.out.2.1]; exact HS.out.up⟩
       clear HS
       have fq2 : 0 ≤ qb := by omega
       obtain ⟨R2, h22, g1, g2, g3, _, g5⟩ := digit_rule HD.out.1 HD.out.2 hY1 hY2 f2 c51 c52
       have HE := div_finish HF.out.1.1 HF.out.1.2.2 (by omega) HF.out.2.2.1 HF.out.2.2.2 HQ1.out g5 g1 g2
       rw [HF.out.1.2.1] at HE
       have HEE : Hid _ := HE
       clear HE HD HV g5
       go_wp2
       go_ret2
       exact ⟨ret_uu HEE.out.1.symm HEE.out.2.symm, rfl⟩
end Go.Proofs.YthjkdnlbdhhmbaaGreatDoor
