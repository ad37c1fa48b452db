/-
  DV, DW.
-/
import Derived.Test.YtnniipekcbjloaaDoorPU01
import Derived.Test.YtnniipekcbjloaaDoorPU03
import Derived.Lib.ItoaNum
/- Plain mathematics: the quotient of two words by one, by halves (as math/bits.Div64 does it). -/
namespace Go.Proofs.YtnniipekcbjloaaDoor
open Go.RowKit
set_option linter.unusedVariables false
set_option linter.unusedSimpArgs false
theorem bitLen_bounds {y : Nat} (h0 : 0 < y) (h1 : y < 18446744073709551616) : 1 ≤ Lib.bitLen y ∧ 2 ^ (Lib.bitLen y - 1) ≤ y ∧ y < 2 ^ Lib.bitLen y :=
  Lib.bitLenAux_bounds 64 y (by simpa using h1) (by omega)
theorem mask32 (a : Int) (h0 : 0 ≤ a) (h1 : a < 18446744073709551616) : bits .and .u64 a 4294967295 = a % 4294967296 := by
  obtain ⟨a, rfl⟩ := Int.eq_ofNat_of_zero_le h0
  rw [Mul64.maskN a (by omega)]; omega
/-- numbers shifted up till the divisor's top bit is set -/
theorem div_setup (hi lo y : Int) (h0 : 0 ≤ hi) (h1 : hi < y) (h2 : y < 18446744073709551616) (h3 : 0 ≤ lo) (h4 : lo < 18446744073709551616) :
    ∃ (B : Nat) (P Y u32 un10 : Int), 64 - (Lib.bitLen y.toNat : Int) = (B : Int) ∧ B < 64 ∧ P = 2 ^ B ∧ 0 < P ∧ IntKind.u64.wrap (y * 2 ^ B) = Y ∧ Y = y * P ∧ 9223372036854775808 ≤ Y ∧ Y < 18446744073709551616 ∧
      bits .or .u64 (IntKind.u64.wrap (hi * 2 ^ B)) (lo / 2 ^ (64 - B)) = u32 ∧ IntKind.u64.wrap (lo * 2 ^ B) = un10 ∧ 0 ≤ u32 ∧ u32 < Y ∧ 0 ≤ un10 ∧ un10 < 18446744073709551616 ∧ (hi * 18446744073709551616 + lo) * P = u32 * 18446744073709551616 + un10 := by
  obtain ⟨hi, rfl⟩ := Int.eq_ofNat_of_zero_le h0
  obtain ⟨lo, rfl⟩ := Int.eq_ofNat_of_zero_le h3
  obtain ⟨y, rfl⟩ := Int.eq_ofNat_of_zero_le (show 0 ≤ y by omega)
  obtain ⟨b1, b2, b3⟩ := bitLen_bounds (y := y) (by omega) (by omega)
  have b4 : Lib.bitLen y ≤ 64 := Lib.bitLen_le y 64 (by omega) (by omega)
  obtain ⟨B, hB⟩ : ∃ B, 64 - Lib.bitLen y = B := ⟨_, rfl⟩
  obtain ⟨l, hl⟩ : ∃ l, Lib.bitLen y = l := ⟨_, rfl⟩
  rw [hl] at b1 b2 b3 b4 hB
  obtain ⟨P, hP⟩ : ∃ P : Nat, 2 ^ B = P := ⟨_, rfl⟩
  obtain ⟨R, hR⟩ : ∃ R : Nat, 2 ^ (64 - B) = R := ⟨_, rfl⟩
  have hPR : P * R = 18446744073709551616 := by rw [← hP, ← hR, ← Nat.pow_add, show B + (64 - B) = 64 by omega]
  have hP0 : 0 < P := by rw [← hP]; exact Nat.two_pow_pos B
  have hR0 : 0 < R := by rw [← hR]; exact Nat.two_pow_pos _
  have hRl : R = 2 ^ l := by rw [← hR]; congr 1; omega
  have hyP : y * P < 18446744073709551616 := by
    have : y * P < R * P := Nat.mul_lt_mul_of_pos_right (by rw [hRl]; exact b3) hP0
    rw [Nat.mul_comm R P, hPR] at this; exact this
  have hyP2 : 9223372036854775808 ≤ y * P := by
    have e : 2 ^ (l - 1) * P = 9223372036854775808 := by rw [← hP, ← Nat.pow_add, show l - 1 + B = 63 by omega]
    have := Nat.mul_le_mul_right P b2
    rw [e] at this; exact this
  have hhP : (hi + 1) * P ≤ y * P := Nat.mul_le_mul_right P (by omega)
  have hhP' : hi * P + P ≤ y * P := by rw [Nat.add_mul, Nat.one_mul] at hhP; exact hhP
  have hlP : lo / R < P := by
    rw [Nat.div_lt_iff_lt_mul hR0, hPR]; omega
  have hlR : lo * P / 18446744073709551616 = lo / R := by
    rw [← hPR, Nat.mul_comm lo P, Nat.mul_div_mul_left _ _ hP0]
  have hor : (hi * P) ||| (lo / R) = hi * P + lo / R := by
    have := Nat.shiftLeft_add_eq_or_of_lt (i := B) (b := lo / R) (by rw [hP]; exact hlP) hi
    rw [Nat.shiftLeft_eq, hP] at this
    exact this.symm
  refine ⟨B, (P : Int), ((y * P : Nat) : Int), ((hi * P + lo / R : Nat) : Int), ((lo * P % 18446744073709551616 : Nat) : Int), ?_, by omega, ?_, by omega, ?_, Int.natCast_mul _ _, by omega, by omega, ?_, ?_, by omega, by omega, by omega, by omega, ?_⟩
  · rw [Int.toNat_natCast, hl]; omega
  · rw [← hP, Int.natCast_pow]; rfl
  · have e : ((y : Int) * 2 ^ B) = ((y * P : Nat) : Int) := by rw [Int.natCast_mul, ← hP, Int.natCast_pow]; rfl
    rw [e, IntKind.wrap_u64]; omega
  · have e : ((hi : Int) * 2 ^ B) = ((hi * P : Nat) : Int) := by rw [Int.natCast_mul, ← hP, Int.natCast_pow]; rfl
    have e2 : ((lo : Int) / 2 ^ (64 - B)) = ((lo / R : Nat) : Int) := by rw [Int.natCast_ediv, ← hR, Int.natCast_pow]; rfl
    rw [e, e2, IntKind.wrap_u64, Int.emod_eq_of_lt (by omega) (by omega), bits_or_u64_nat _ _ (by omega) (by omega), hor]
  · have e : ((lo : Int) * 2 ^ B) = ((lo * P : Nat) : Int) := by rw [Int.natCast_mul, ← hP, Int.natCast_pow]; rfl
    rw [e, IntKind.wrap_u64]; omega
  · have h5 := Nat.div_add_mod (lo * P) 18446744073709551616
    rw [hlR] at h5
    have e : ((hi : Int) * 18446744073709551616 + lo) * P = (((hi * P) * 18446744073709551616 + lo * P : Nat) : Int) := by
      rw [Int.natCast_add, Int.natCast_mul, Int.natCast_mul, Int.natCast_mul]; grind
    rw [e, ← h5]; omega
/-- a guess of a half-word of the quotient: not too small; r is what the upper half leaves -/
structure DSt (b1 b0 u v q r : Int) : Prop where
  eq : q * b1 + r = u
  r0 : 0 ≤ r
  r1 : r < 4294967296
  q0 : 0 ≤ q
  q1 : q ≤ 4294967297
  up : u * 4294967296 + v < (q + 1) * (b1 * 4294967296 + b0)
theorem DSt.start {b1 b0 u v : Int} (h1 : 2147483648 ≤ b1) (h2 : b1 < 4294967296) (h3 : 0 ≤ b0) (h4 : b0 < 4294967296) (hu : 0 ≤ u) (hu' : u < b1 * 4294967296 + b0) (hv : 0 ≤ v) (hv' : v < 4294967296) : DSt b1 b0 u v (u / b1) (u % b1) := by
  have e := Int.mul_ediv_add_emod u b1
  have r0 := Int.emod_nonneg u (show b1 ≠ 0 by omega)
  have r1 := Int.emod_lt_of_pos u (show 0 < b1 by omega)
  have q0 : 0 ≤ u / b1 := Int.ediv_nonneg hu (by omega)
  obtain ⟨q, hq⟩ : ∃ q, u / b1 = q := ⟨_, rfl⟩
  obtain ⟨r, hr⟩ : ∃ r, u % b1 = r := ⟨_, rfl⟩
  rw [hq, hr] at e; rw [hq] at q0 ⊢; rw [hr] at r0 r1 ⊢
  refine ⟨by rw [Int.mul_comm]; exact e, r0, by omega, q0, ?_, ?_⟩
  · by_cases h : q ≤ 4294967297
    · exact h
    · exfalso
      have : b1 * 4294967298 ≤ b1 * q := Int.mul_le_mul_of_nonneg_left (by omega) (by omega)
      omega
  · have e1 : (q + 1) * (b1 * 4294967296 + b0) = (b1 * q) * 4294967296 + b1 * 4294967296 + (q + 1) * b0 := by grind
    have e2 : 0 ≤ (q + 1) * b0 := Int.mul_nonneg (by omega) h3
    rw [e1]; omega
/-- too great: one less -/
theorem DSt.less {b1 b0 u v q r : Int} (h : DSt b1 b0 u v q r) (h1 : 2147483648 ≤ b1) (h3 : 0 ≤ b0) (hu' : u < b1 * 4294967296 + b0) (hv : 0 ≤ v) (hv' : v < 4294967296) (hbig : 4294967296 ≤ q ∨ 4294967296 * r + v < q * b0) :
    (q - 1) * b1 + (r + b1) = u ∧ 0 ≤ q - 1 ∧ u * 4294967296 + v < (q - 1 + 1) * (b1 * 4294967296 + b0) ∧ q - 1 ≤ 4294967296 := by
  have e0 := h.eq
  have hq := h.q0
  have hq1 : 1 ≤ q := by
    rcases hbig with hb | hb
    · omega
    · by_cases h0 : q = 0
      · subst h0; have := h.r0; simp only [Int.zero_mul] at hb; omega
      · omega
  refine ⟨by grind, by omega, ?_, by have := h.q1; omega⟩
  rw [show q - 1 + 1 = q by omega]
  rcases hbig with hb | hb
  · have : 4294967296 * (b1 * 4294967296 + b0) ≤ q * (b1 * 4294967296 + b0) := Int.mul_le_mul_of_nonneg_right hb (by omega)
    omega
  · have e1 : q * (b1 * 4294967296 + b0) = (q * b1) * 4294967296 + q * b0 := by grind
    rw [e1]; omega
/-- not too great -/
theorem DSt.done {b1 b0 u v q r : Int} (h : DSt b1 b0 u v q r) (hok : q * b0 ≤ 4294967296 * r + v) : q * (b1 * 4294967296 + b0) ≤ u * 4294967296 + v := by
  have e0 := h.eq
  have e1 : q * (b1 * 4294967296 + b0) = (q * b1) * 4294967296 + q * b0 := by grind
  rw [e1]; omega
theorem quot_unique {D N q : Int} (hD : 0 < D) (h1 : q * D ≤ N) (h2 : N < (q + 1) * D) : q = N / D ∧ N - q * D = N % D := by
  have e1 : N / D = q := by
    rw [Int.ediv_eq_iff_of_pos hD]
    exact ⟨h1, by rw [Int.add_mul, Int.one_mul] at h2; exact h2⟩
  have := Int.mul_ediv_add_emod N D
  rw [e1] at this
  refine ⟨e1.symm, ?_⟩
  rw [Int.mul_comm] at this; omega
end Go.Proofs.YtnniipekcbjloaaDoor
/- Walks: math/bits.Div64. -/
namespace Go.Proofs.YtnniipekcbjloaaDoor
open Go.RowKit
set_option linter.unusedVariables false
set_option linter.unusedSimpArgs false
theorem brk_done {b1 b0 Y U V q r : Int} (hY : Y = b1 * 4294967296 + b0) (h : (q - 1) * b1 + (r + b1) = U ∧ 0 ≤ q - 1 ∧ U * 4294967296 + V < (q - 1 + 1) * (b1 * 4294967296 + b0) ∧ q - 1 ≤ 4294967296) (h0 : 0 ≤ b0) (h0' : b0 < 4294967296) (hV : 0 ≤ V) (hr : 4294967296 ≤ r + b1) :
    (q - 1) * Y ≤ U * 4294967296 + V ∧ U * 4294967296 + V < (q - 1 + 1) * Y := by
  obtain ⟨e1, e2, e3, e4⟩ := h
  refine ⟨?_, by rw [hY]; exact e3⟩
  have e5 : (q - 1) * Y = ((q - 1) * b1) * 4294967296 + (q - 1) * b0 := by rw [hY]; grind
  have e6 : (q - 1) * b0 ≤ 4294967296 * 4294967295 := Int.mul_le_mul e4 (by omega) h0 (by decide)
  rw [e5]; omega
/-- a digit found: what is left, reckoned with wraps, is what is left -/
theorem digit_rule {Y U V q : Int} (h1 : q * Y ≤ U * 4294967296 + V) (h2 : U * 4294967296 + V < (q + 1) * Y) (hY1 : 9223372036854775808 ≤ Y) (hY2 : Y < 18446744073709551616) (hU : U < Y) (hV : 0 ≤ V) (hV' : V < 4294967296) :
    ∃ R, IntKind.u64.wrap (IntKind.u64.wrap (IntKind.u64.wrap (U * 4294967296) + V) - IntKind.u64.wrap (q * Y)) = R ∧ 0 ≤ R ∧ R < Y ∧ q < 4294967296 ∧ True ∧ U * 4294967296 + V - q * Y = R := by
  have e : (q + 1) * Y = q * Y + Y := by grind
  rw [e] at h2
  have hq : q < 4294967296 := by
    by_cases h : q < 4294967296
    · exact h
    · have : 4294967296 * Y ≤ q * Y := Int.mul_le_mul_of_nonneg_right (by omega) (by omega)
      omega
  refine ⟨U * 4294967296 + V - q * Y, ?_, by omega, by omega, hq, trivial, rfl⟩
  obtain ⟨T, hT⟩ : ∃ T, q * Y = T := ⟨_, rfl⟩
  rw [hT] at h1 h2 ⊢
  rw [IntKind.wrap_u64, IntKind.wrap_u64, IntKind.wrap_u64, IntKind.wrap_u64]; omega
/-- both digits found: the quotient, and what is left -/
theorem div_finish {hi lo y P Y u un10 v1 v0 qa qb R1 R2 : Int} (hY : Y = y * P) (hP : 0 < P) (hy : 0 < y) (he : (hi * 18446744073709551616 + lo) * P = u * 18446744073709551616 + un10) (hl : un10 = v1 * 4294967296 + v0)
    (h1 : u * 4294967296 + v1 - qa * Y = R1) (h2 : R1 * 4294967296 + v0 - qb * Y = R2) (hR0 : 0 ≤ R2) (hR1 : R2 < Y) :
    (hi * 18446744073709551616 + lo) / y = qa * 4294967296 + qb ∧ (hi * 18446744073709551616 + lo) % y = R2 / P := by
  obtain ⟨X, hX⟩ : ∃ X, hi * 18446744073709551616 + lo = X := ⟨_, rfl⟩
  rw [hX] at he ⊢
  have e1 : R2 = (X - (qa * 4294967296 + qb) * y) * P := by
    have : (X - (qa * 4294967296 + qb) * y) * P = X * P - (qa * 4294967296 + qb) * (y * P) := by grind
    rw [this, ← hY, he, hl]; grind
  obtain ⟨Z, hZ⟩ : ∃ Z, X - (qa * 4294967296 + qb) * y = Z := ⟨_, rfl⟩
  rw [hZ] at e1
  have e2 : R2 / P = Z := by rw [e1]; exact Int.mul_ediv_cancel _ (by omega)
  have z0 : 0 ≤ Z := by rw [← e2]; exact Int.ediv_nonneg hR0 (by omega)
  have z1 : Z < y := by
    rw [e1, hY] at hR1
    exact Int.lt_of_mul_lt_mul_right hR1 (by omega)
  have := quot_unique (D := y) (N := X) (q := qa * 4294967296 + qb) hy (by omega) (by rw [Int.add_mul (qa * 4294967296 + qb) 1 y]; omega)
  rw [e2]
  exact ⟨this.1.symm, by rw [← this.2]; exact hZ⟩
theorem ret_uu {a b c d : Int} (h1 : a = b) (h2 : c = d) : Ending.returned (.tuple #[.int .u64 a, .int .u64 c]) = .returned (.tuple #[.int .u64 b, .int .u64 d]) := by rw [h1, h2]
set_option maxRecDepth 100000 in
set_option maxHeartbeats 8000000 in
theorem div64_pos (hi lo y : Int) (w : World) (h0 : 0 < hi) (h1 : hi < y) (h2 : y < 18446744073709551616) (h3 : 0 ≤ lo) (h4 : lo < 18446744073709551616) :
    Calls Tryd.prog 87 #[.int .u64 hi, .int .u64 lo, .int .u64 y] w fun e w' => e = .returned (.tuple #[.int .u64 ((hi * 18446744073709551616 + lo) / y), .int .u64 ((hi * 18446744073709551616 + lo) % y)]) ∧ w' = w := by
  obtain ⟨B, P, Y, u, un10, hB, hB64, hP, hP0, hwY, hY, hY1, hY2, hor, hwl, hu0, hu1, hl0, hl1, heq⟩ := div_setup hi lo y (by omega) h1 h2 h3 h4
  have hcon := leading_any y w (by omega) (by omega)
  rw [hB] at hcon
  have hy0 : (y == 0) = false := by simp; omega
  have hh0 : (hi == 0) = false := by simp; omega
  have hyh : ¬ y ≤ hi := by omega
  obtain ⟨b1, hb1⟩ : ∃ b1, Y / 4294967296 = b1 := ⟨_, rfl⟩
  obtain ⟨b0, hb0⟩ : ∃ b0, Y % 4294967296 = b0 := ⟨_, rfl⟩
  obtain ⟨v1, hv1⟩ : ∃ v1, un10 / 4294967296 = v1 := ⟨_, rfl⟩
  obtain ⟨v0, hv0⟩ : ∃ v0, un10 % 4294967296 = v0 := ⟨_, rfl⟩
  have hYb : Y = b1 * 4294967296 + b0 := by omega
  have hmY : bits .and .u64 Y 4294967295 = b0 := by rw [mask32 Y (by omega) hY2, hb0]
  have hml : bits .and .u64 un10 4294967295 = v0 := by rw [mask32 un10 hl0 hl1, hv0]
  have c1 : 2147483648 ≤ b1 := by omega
  have c2 : b1 < 4294967296 := by omega
  have c3 : 0 ≤ b0 ∧ b0 < 4294967296 := by omega
  have c4 : 0 ≤ v1 ∧ v1 < 4294967296 := by omega
  have c5 : 0 ≤ v0 ∧ v0 < 4294967296 := by omega
  have hst := DSt.start c1 c2 c3.1 c3.2 hu0 (hYb ▸ hu1) c4.1 c4.2
  obtain ⟨m, hm⟩ : ∃ m, u / b1 * b1 = m := ⟨_, rfl⟩
  have hra : u % b1 = u - m := by
    have := Int.mul_ediv_add_emod u b1
    rw [Int.mul_comm, hm] at this; omega
  rw [hra] at hst
  have d1 : 0 ≤ u - m := hst.r0
  have d2 : 0 ≤ m := by rw [← hm]; exact Int.mul_nonneg hst.q0 (by omega)
  have d3 := hst.q0
  have d4 := hst.q1
  have HF : Hid ((Y = y * P ∧ P = 2 ^ B ∧ 0 < P) ∧ Y = b1 * 4294967296 + b0 ∧ (hi * 18446744073709551616 + lo) * P = u * 18446744073709551616 + un10 ∧ un10 = v1 * 4294967296 + v0) := ⟨⟨hY, hP, hP0⟩, hYb, heq, by omega⟩
  have HS : Hid (DSt b1 b0 u v1 (u / b1) (u - m)) := hst
  have hb1p : ¬ b1 = 0 := by omega
  clear hst hYb heq hY hP hra hB hb0 hv0
  obtain ⟨c31, c32⟩ := c3
  obtain ⟨c41, c42⟩ := c4
  obtain ⟨c51, c52⟩ := c5
  have hu64 : u < 18446744073709551616 := by omega
  go_enter Tryd.func87, Tryd.ntmps87
  go_wp2_with (go_at_call 100; refine hcon.mono ?_; rintro e w' ⟨rfl, rfl⟩)
  clear hwY hor hwl hb1 hmY hv1 hml hm hcon
  go_loop [15, 16] (fun a b => ∃ q r : Int, a = .int .u64 q ∧ b = .int .u64 r ∧ DSt b1 b0 u v1 q r) (fun a _ => (intOf a).toNat)
  case atStart => exact ⟨_, _, rfl, rfl, HS.out⟩
  case round =>
    obtain ⟨qa, ra, rfl, rfl, hst⟩ := hrel
    clear d1 d2 d3 d4 HS
    have HV : Hid (0 ≤ v1) := c41
    have HS : Hid (DSt b1 b0 u v1 qa ra) := hst
    have d1 := hst.r0
    have d2 := hst.r1
    have d3 := hst.q0
    have d4 := hst.q1
    clear hst
    by_cases hq : 4294967296 ≤ qa
    · have HL : Hid ((qa - 1) * b1 + (ra + b1) = u ∧ 0 ≤ qa - 1 ∧ u * 4294967296 + v1 < (qa - 1 + 1) * (b1 * 4294967296 + b0) ∧ qa - 1 ≤ 4294967296) := HS.out.less c1 c31 (HF.out.2.1 ▸ hu1) c41 c42 (Or.inl hq)
      by_cases hr : 4294967296 ≤ ra + b1
      · have HD : Hid ((qa - 1) * Y ≤ u * 4294967296 + v1 ∧ u * 4294967296 + v1 < (qa - 1 + 1) * Y) := brk_done HF.out.2.1 HL.out c31 c32 HV.out hr
        clear HL HS
        have fq1 : 0 ≤ qa - 1 := by omega
        obtain ⟨R1, h21, f1, f2, f3, f4, f5⟩ := digit_rule HD.out.1 HD.out.2 hY1 hY2 hu1 c41 c42
        have HQ1 : Hid (u * 4294967296 + v1 - (qa - 1) * Y = R1) := f5
        have hst := DSt.start c1 c2 c31 c32 f1 (HF.out.2.1 ▸ f2) c51 c52
        obtain ⟨m, hm⟩ : ∃ m, R1 / b1 * b1 = m := ⟨_, rfl⟩
        have hra : R1 % b1 = R1 - m := by
          have := Int.mul_ediv_add_emod R1 b1
          rw [Int.mul_comm, hm] at this; omega
        rw [hra] at hst
        have d1' : 0 ≤ R1 - m := hst.r0
        have d2' : 0 ≤ m := by rw [← hm]; exact Int.mul_nonneg hst.q0 (by omega)
        have d3' := hst.q0
        have d4' := hst.q1
        have HS2 : Hid (DSt b1 b0 R1 v0 (R1 / b1) (R1 - m)) := hst
        have f6 : R1 < 18446744073709551616 := by omega
        clear hst hra f5 HD HV
        go_wp2
        clear h21 hm
        go_loop [18, 16] (fun a b => ∃ q r : Int, a = .int .u64 q ∧ b = .int .u64 r ∧ DSt b1 b0 R1 v0 q r) (fun a _ => (intOf a).toNat)
        case atStart => exact ⟨_, _, rfl, rfl, HS2.out⟩
        case round =>
          obtain ⟨qb, rb, rfl, rfl, hst⟩ := hrel
          clear d1' d2' d3' d4' HS2
          have HV : Hid (0 ≤ v0) := c51
          have HS : Hid (DSt b1 b0 R1 v0 qb rb) := hst
          have d1 := hst.r0
          have d2 := hst.r1
          have d3 := hst.q0
          have d4 := hst.q1
          clear hst
          by_cases hq : 4294967296 ≤ qb
          · have HL : Hid ((qb - 1) * b1 + (rb + b1) = R1 ∧ 0 ≤ qb - 1 ∧ R1 * 4294967296 + v0 < (qb - 1 + 1) * (b1 * 4294967296 + b0) ∧ qb - 1 ≤ 4294967296) := HS.out.less c1 c31 (HF.out.2.1 ▸ f2) c51 c52 (Or.inl hq)
            by_cases hr : 4294967296 ≤ rb + b1
            · have HD : Hid ((qb - 1) * Y ≤ R1 * 4294967296 + v0 ∧ R1 * 4294967296 + v0 < (qb - 1 + 1) * Y) := brk_done HF.out.2.1 HL.out c31 c32 HV.out hr
              clear HL HS
              have fq2 : 0 ≤ qb - 1 := by omega
              obtain ⟨R2, h22, g1, g2, g3, _, g5⟩ := digit_rule HD.out.1 HD.out.2 hY1 hY2 f2 c51 c52
              have HE := div_finish HF.out.1.1 HF.out.1.2.2 (by omega) HF.out.2.2.1 HF.out.2.2.2 HQ1.out g5 g1 g2
              rw [HF.out.1.2.1] at HE
              have HEE : Hid _ := HE
              clear HE HD HV g5
              go_wp2
              go_ret2
              exact ⟨ret_uu HEE.out.1.symm HEE.out.2.symm, rfl⟩
            · go_wp2
              go_round
              case rel => exact ⟨qb - 1, rb + b1, rfl, rfl, HL.out.1, by omega, by omega, HL.out.2.1, by have := HL.out.2.2.2; omega, HL.out.2.2.1⟩
              case measure => simp [intOf]; omega
          · obtain ⟨m2, hm2⟩ : ∃ m2, qb * b0 = m2 := ⟨_, rfl⟩
            have e0 : 0 ≤ m2 := by rw [← hm2]; exact Int.mul_nonneg d3 c31
            have e1 : m2 ≤ 4294967295 * 4294967295 := by rw [← hm2]; exact Int.mul_le_mul (by omega) (by omega) c31 (by decide)
            by_cases hc : 4294967296 * rb + v0 < m2
            · have HL : Hid ((qb - 1) * b1 + (rb + b1) = R1 ∧ 0 ≤ qb - 1 ∧ R1 * 4294967296 + v0 < (qb - 1 + 1) * (b1 * 4294967296 + b0) ∧ qb - 1 ≤ 4294967296) := HS.out.less c1 c31 (HF.out.2.1 ▸ f2) c51 c52 (Or.inr (by rw [hm2]; exact hc))
              have hq1 : 1 ≤ qb := by have := HL.out.2.1; omega
              by_cases hr : 4294967296 ≤ rb + b1
              · have HD : Hid ((qb - 1) * Y ≤ R1 * 4294967296 + v0 ∧ R1 * 4294967296 + v0 < (qb - 1 + 1) * Y) := brk_done HF.out.2.1 HL.out c31 c32 HV.out hr
                clear HL HS
                have fq2 : 0 ≤ qb - 1 := by omega
                obtain ⟨R2, h22, g1, g2, g3, _, g5⟩ := digit_rule HD.out.1 HD.out.2 hY1 hY2 f2 c51 c52
                have HE := div_finish HF.out.1.1 HF.out.1.2.2 (by omega) HF.out.2.2.1 HF.out.2.2.2 HQ1.out g5 g1 g2
                rw [HF.out.1.2.1] at HE
                have HEE : Hid _ := HE
                clear HE HD HV g5
                go_wp2
                go_ret2
                exact ⟨ret_uu HEE.out.1.symm HEE.out.2.symm, rfl⟩
              · go_wp2
                go_round
                case rel => exact ⟨qb - 1, rb + b1, rfl, rfl, HL.out.1, by omega, by omega, HL.out.2.1, by have := HL.out.2.2.2; omega, HL.out.2.2.1⟩
                case measure => simp [intOf]; omega
            · have HD : Hid (qb * Y ≤ R1 * 4294967296 + v0 ∧ R1 * 4294967296 + v0 < (qb + 1) * Y) := ⟨by rw [HF.out.2.1]; exact HS.out.done (by rw [hm2]; omega), by rw [HF.out.2.1]; exact HS.out.up⟩
              clear HS
              have fq2 : 0 ≤ qb := by omega
              obtain ⟨R2, h22, g1, g2, g3, _, g5⟩ := digit_rule HD.out.1 HD.out.2 hY1 hY2 f2 c51 c52
              have HE := div_finish HF.out.1.1 HF.out.1.2.2 (by omega) HF.out.2.2.1 HF.out.2.2.2 HQ1.out g5 g1 g2
              rw [HF.out.1.2.1] at HE
              have HEE : Hid _ := HE
              clear HE HD HV g5
              go_wp2
              go_ret2
              exact ⟨ret_uu HEE.out.1.symm HEE.out.2.symm, rfl⟩
      · go_wp2
        go_round
        case rel => exact ⟨qa - 1, ra + b1, rfl, rfl, HL.out.1, by omega, by omega, HL.out.2.1, by have := HL.out.2.2.2; omega, HL.out.2.2.1⟩
        case measure => simp [intOf]; omega
    · obtain ⟨m2, hm2⟩ : ∃ m2, qa * b0 = m2 := ⟨_, rfl⟩
      have e0 : 0 ≤ m2 := by rw [← hm2]; exact Int.mul_nonneg d3 c31
      have e1 : m2 ≤ 4294967295 * 4294967295 := by rw [← hm2]; exact Int.mul_le_mul (by omega) (by omega) c31 (by decide)
      by_cases hc : 4294967296 * ra + v1 < m2
      · have HL : Hid ((qa - 1) * b1 + (ra + b1) = u ∧ 0 ≤ qa - 1 ∧ u * 4294967296 + v1 < (qa - 1 + 1) * (b1 * 4294967296 + b0) ∧ qa - 1 ≤ 4294967296) := HS.out.less c1 c31 (HF.out.2.1 ▸ hu1) c41 c42 (Or.inr (by rw [hm2]; exact hc))
        have hq1 : 1 ≤ qa := by have := HL.out.2.1; omega
        by_cases hr : 4294967296 ≤ ra + b1
        · have HD : Hid ((qa - 1) * Y ≤ u * 4294967296 + v1 ∧ u * 4294967296 + v1 < (qa - 1 + 1) * Y) := brk_done HF.out.2.1 HL.out c31 c32 HV.out hr
          clear HL HS
          have fq1 : 0 ≤ qa - 1 := by omega
          obtain ⟨R1, h21, f1, f2, f3, f4, f5⟩ := digit_rule HD.out.1 HD.out.2 hY1 hY2 hu1 c41 c42
          have HQ1 : Hid (u * 4294967296 + v1 - (qa - 1) * Y = R1) := f5
          have hst := DSt.start c1 c2 c31 c32 f1 (HF.out.2.1 ▸ f2) c51 c52
          obtain ⟨m, hm⟩ : ∃ m, R1 / b1 * b1 = m := ⟨_, rfl⟩
          have hra : R1 % b1 = R1 - m := by
            have := Int.mul_ediv_add_emod R1 b1
            rw [Int.mul_comm, hm] at this; omega
          rw [hra] at hst
          have d1' : 0 ≤ R1 - m := hst.r0
          have d2' : 0 ≤ m := by rw [← hm]; exact Int.mul_nonneg hst.q0 (by omega)
          have d3' := hst.q0
          have d4' := hst.q1
          have HS2 : Hid (DSt b1 b0 R1 v0 (R1 / b1) (R1 - m)) := hst
          have f6 : R1 < 18446744073709551616 := by omega
          clear hst hra f5 HD HV
          go_wp2
          clear h21 hm
          go_loop [18, 16] (fun a b => ∃ q r : Int, a = .int .u64 q ∧ b = .int .u64 r ∧ DSt b1 b0 R1 v0 q r) (fun a _ => (intOf a).toNat)
          case atStart => exact ⟨_, _, rfl, rfl, HS2.out⟩
          case round =>
            obtain ⟨qb, rb, rfl, rfl, hst⟩ := hrel
            clear d1' d2' d3' d4' HS2
            have HV : Hid (0 ≤ v0) := c51
            have HS : Hid (DSt b1 b0 R1 v0 qb rb) := hst
            have d1 := hst.r0
            have d2 := hst.r1
            have d3 := hst.q0
            have d4 := hst.q1
            clear hst
            by_cases hq : 4294967296 ≤ qb
            · have HL : Hid ((qb - 1) * b1 + (rb + b1) = R1 ∧ 0 ≤ qb - 1 ∧ R1 * 4294967296 + v0 < (qb - 1 + 1) * (b1 * 4294967296 + b0) ∧ qb - 1 ≤ 4294967296) := HS.out.less c1 c31 (HF.out.2.1 ▸ f2) c51 c52 (Or.inl hq)
              by_cases hr : 4294967296 ≤ rb + b1
              · have HD : Hid ((qb - 1) * Y ≤ R1 * 4294967296 + v0 ∧ R1 * 4294967296 + v0 < (qb - 1 + 1) * Y) := brk_done HF.out.2.1 HL.out c31 c32 HV.out hr
                clear HL HS
                have fq2 : 0 ≤ qb - 1 := by omega
                obtain ⟨R2, h22, g1, g2, g3, _, g5⟩ := digit_rule HD.out.1 HD.out.2 hY1 hY2 f2 c51 c52
                have HE := div_finish HF.out.1.1 HF.out.1.2.2 (by omega) HF.out.2.2.1 HF.out.2.2.2 HQ1.out g5 g1 g2
                rw [HF.out.1.2.1] at HE
                have HEE : Hid _ := HE
                clear HE HD HV g5
                go_wp2
                go_ret2
                exact ⟨ret_uu HEE.out.1.symm HEE.out.2.symm, rfl⟩
              · go_wp2
                go_round
                case rel => exact ⟨qb - 1, rb + b1, rfl, rfl, HL.out.1, by omega, by omega, HL.out.2.1, by have := HL.out.2.2.2; omega, HL.out.2.2.1⟩
                case measure => simp [intOf]; omega
            · obtain ⟨m2, hm2⟩ : ∃ m2, qb * b0 = m2 := ⟨_, rfl⟩
              have e0 : 0 ≤ m2 := by rw [← hm2]; exact Int.mul_nonneg d3 c31
              have e1 : m2 ≤ 4294967295 * 4294967295 := by rw [← hm2]; exact Int.mul_le_mul (by omega) (by omega) c31 (by decide)
              by_cases hc : 4294967296 * rb + v0 < m2
              · have HL : Hid ((qb - 1) * b1 + (rb + b1) = R1 ∧ 0 ≤ qb - 1 ∧ R1 * 4294967296 + v0 < (qb - 1 + 1) * (b1 * 4294967296 + b0) ∧ qb - 1 ≤ 4294967296) := HS.out.less c1 c31 (HF.out.2.1 ▸ f2) c51 c52 (Or.inr (by rw [hm2]; exact hc))
                have hq1 : 1 ≤ qb := by have := HL.out.2.1; omega
                by_cases hr : 4294967296 ≤ rb + b1
                · have HD : Hid ((qb - 1) * Y ≤ R1 * 4294967296 + v0 ∧ R1 * 4294967296 + v0 < (qb - 1 + 1) * Y) := brk_done HF.out.2.1 HL.out c31 c32 HV.out hr
                  clear HL HS
                  have fq2 : 0 ≤ qb - 1 := by omega
                  obtain ⟨R2, h22, g1, g2, g3, _, g5⟩ := digit_rule HD.out.1 HD.out.2 hY1 hY2 f2 c51 c52
                  have HE := div_finish HF.out.1.1 HF.out.1.2.2 (by omega) HF.out.2.2.1 HF.out.2.2.2 HQ1.out g5 g1 g2
                  rw [HF.out.1.2.1] at HE
                  have HEE : Hid _ := HE
                  clear HE HD HV g5
                  go_wp2
                  go_ret2
                  exact ⟨ret_uu HEE.out.1.symm HEE.out.2.symm, rfl⟩
                · go_wp2
                  go_round
                  case rel => exact ⟨qb - 1, rb + b1, rfl, rfl, HL.out.1, by omega, by omega, HL.out.2.1, by have := HL.out.2.2.2; omega, HL.out.2.2.1⟩
                  case measure => simp [intOf]; omega
              · have HD : Hid (qb * Y ≤ R1 * 4294967296 + v0 ∧ R1 * 4294967296 + v0 < (qb + 1) * Y) := ⟨by rw [HF.out.2.1]; exact HS.out.done (by rw [hm2]; omega), by rw [HF.out.2.1]; exact HS.out.up⟩
                clear HS
                have fq2 : 0 ≤ qb := by omega
                obtain ⟨R2, h22, g1, g2, g3, _, g5⟩ := digit_rule HD.out.1 HD.out.2 hY1 hY2 f2 c51 c52
                have HE := div_finish HF.out.1.1 HF.out.1.2.2 (by omega) HF.out.2.2.1 HF.out.2.2.2 HQ1.out g5 g1 g2
                rw [HF.out.1.2.1] at HE
                have HEE : Hid _ := HE
                clear HE HD HV g5
                go_wp2
                go_ret2
                exact ⟨ret_uu HEE.out.1.symm HEE.out.2.symm, rfl⟩
        · go_wp2
          go_round
          case rel => exact ⟨qa - 1, ra + b1, rfl, rfl, HL.out.1, by omega, by omega, HL.out.2.1, by have := HL.out.2.2.2; omega, HL.out.2.2.1⟩
          case measure => simp [intOf]; omega
      · have HD : Hid (qa * Y ≤ u * 4294967296 + v1 ∧ u * 4294967296 + v1 < (qa + 1) * Y) := ⟨by rw [HF.out.2.1]; exact HS.out.done (by rw [hm2]; omega), by rw [HF.out.2.1]; exact HS.out.up⟩
        clear HS
        have fq1 : 0 ≤ qa := by omega
        obtain ⟨R1, h21, f1, f2, f3, f4, f5⟩ := digit_rule HD.out.1 HD.out.2 hY1 hY2 hu1 c41 c42
        have HQ1 : Hid (u * 4294967296 + v1 - (qa) * Y = R1) := f5
        have hst := DSt.start c1 c2 c31 c32 f1 (HF.out.2.1 ▸ f2) c51 c52
        obtain ⟨m, hm⟩ : ∃ m, R1 / b1 * b1 = m := ⟨_, rfl⟩
        have hra : R1 % b1 = R1 - m := by
          have := Int.mul_ediv_add_emod R1 b1
          rw [Int.mul_comm, hm] at this; omega
        rw [hra] at hst
        have d1' : 0 ≤ R1 - m := hst.r0
        have d2' : 0 ≤ m := by rw [← hm]; exact Int.mul_nonneg hst.q0 (by omega)
        have d3' := hst.q0
        have d4' := hst.q1
        have HS2 : Hid (DSt b1 b0 R1 v0 (R1 / b1) (R1 - m)) := hst
        have f6 : R1 < 18446744073709551616 := by omega
        clear hst hra f5 HD HV
        go_wp2
        clear h21 hm
        go_loop [18, 16] (fun a b => ∃ q r : Int, a = .int .u64 q ∧ b = .int .u64 r ∧ DSt b1 b0 R1 v0 q r) (fun a _ => (intOf a).toNat)
        case atStart => exact ⟨_, _, rfl, rfl, HS2.out⟩
        case round =>
          obtain ⟨qb, rb, rfl, rfl, hst⟩ := hrel
          clear d1' d2' d3' d4' HS2
          have HV : Hid (0 ≤ v0) := c51
          have HS : Hid (DSt b1 b0 R1 v0 qb rb) := hst
          have d1 := hst.r0
          have d2 := hst.r1
          have d3 := hst.q0
          have d4 := hst.q1
          clear hst
          by_cases hq : 4294967296 ≤ qb
          · have HL : Hid ((qb - 1) * b1 + (rb + b1) = R1 ∧ 0 ≤ qb - 1 ∧ R1 * 4294967296 + v0 < (qb - 1 + 1) * (b1 * 4294967296 + b0) ∧ qb - 1 ≤ 4294967296) := HS.out.less c1 c31 (HF.out.2.1 ▸ f2) c51 c52 (Or.inl hq)
            by_cases hr : 4294967296 ≤ rb + b1
            · have HD : Hid ((qb - 1) * Y ≤ R1 * 4294967296 + v0 ∧ R1 * 4294967296 + v0 < (qb - 1 + 1) * Y) := brk_done HF.out.2.1 HL.out c31 c32 HV.out hr
              clear HL HS
              have fq2 : 0 ≤ qb - 1 := by omega
              obtain ⟨R2, h22, g1, g2, g3, _, g5⟩ := digit_rule HD.out.1 HD.out.2 hY1 hY2 f2 c51 c52
              have HE := div_finish HF.out.1.1 HF.out.1.2.2 (by omega) HF.out.2.2.1 HF.out.2.2.2 HQ1.out g5 g1 g2
              rw [HF.out.1.2.1] at HE
              have HEE : Hid _ := HE
              clear HE HD HV g5
              go_wp2
              go_ret2
              exact ⟨ret_uu HEE.out.1.symm HEE.out.2.symm, rfl⟩
            · go_wp2
              go_round
              case rel => exact ⟨qb - 1, rb + b1, rfl, rfl, HL.out.1, by omega, by omega, HL.out.2.1, by have := HL.out.2.2.2; omega, HL.out.2.2.1⟩
              case measure => simp [intOf]; omega
          · obtain ⟨m2, hm2⟩ : ∃ m2, qb * b0 = m2 := ⟨_, rfl⟩
            have e0 : 0 ≤ m2 := by rw [← hm2]; exact Int.mul_nonneg d3 c31
            have e1 : m2 ≤ 4294967295 * 4294967295 := by rw [← hm2]; exact Int.mul_le_mul (by omega) (by omega) c31 (by decide)
            by_cases hc : 4294967296 * rb + v0 < m2
            · have HL : Hid ((qb - 1) * b1 + (rb + b1) = R1 ∧ 0 ≤ qb - 1 ∧ R1 * 4294967296 + v0 < (qb - 1 + 1) * (b1 * 4294967296 + b0) ∧ qb - 1 ≤ 4294967296) := HS.out.less c1 c31 (HF.out.2.1 ▸ f2) c51 c52 (Or.inr (by rw [hm2]; exact hc))
              have hq1 : 1 ≤ qb := by have := HL.out.2.1; omega
              by_cases hr : 4294967296 ≤ rb + b1
              · have HD : Hid ((qb - 1) * Y ≤ R1 * 4294967296 + v0 ∧ R1 * 4294967296 + v0 < (qb - 1 + 1) * Y) := brk_done HF.out.2.1 HL.out c31 c32 HV.out hr
                clear HL HS
                have fq2 : 0 ≤ qb - 1 := by omega
                obtain ⟨R2, h22, g1, g2, g3, _, g5⟩ := digit_rule HD.out.1 HD.out.2 hY1 hY2 f2 c51 c52
                have HE := div_finish HF.out.1.1 HF.out.1.2.2 (by omega) HF.out.2.2.1 HF.out.2.2.2 HQ1.out g5 g1 g2
                rw [HF.out.1.2.1] at HE
                have HEE : Hid _ := HE
                clear HE HD HV g5
                go_wp2
                go_ret2
                exact ⟨ret_uu HEE.out.1.symm HEE.out.2.symm, rfl⟩
              · go_wp2
                go_round
                case rel => exact ⟨qb - 1, rb + b1, rfl, rfl, HL.out.1, by omega, by omega, HL.out.2.1, by have := HL.out.2.2.2; omega, HL.out.2.2.1⟩
                case measure => simp [intOf]; omega
            · have HD : Hid (qb * Y ≤ R1 * 4294967296 + v0 ∧ R1 * 4294967296 + v0 < (qb + 1) * Y) := ⟨by rw [HF.out.2.1]; exact HS.out.done (by rw [hm2]; omega), by rw [HF.out.2.1]; exact HS.out.up⟩
              clear HS
              have fq2 : 0 ≤ qb := by omega
              obtain ⟨R2, h22, g1, g2, g3, _, g5⟩ := digit_rule HD.out.1 HD.out.2 hY1 hY2 f2 c51 c52
              have HE := div_finish HF.out.1.1 HF.out.1.2.2 (by omega) HF.out.2.2.1 HF.out.2.2.2 HQ1.out g5 g1 g2
              rw [HF.out.1.2.1] at HE
              have HEE : Hid _ := HE
              clear HE HD HV g5
              go_wp2
              go_ret2
              exact ⟨ret_uu HEE.out.1.symm HEE.out.2.symm, rfl⟩
end Go.Proofs.YtnniipekcbjloaaDoor
/-
  DX, DY, DZ.
-/
/- Walks: math/bits.Div64 whole; divideByLimb. -/
namespace Go.Proofs.YtnniipekcbjloaaDoor
open Go.RowKit
set_option linter.unusedVariables false
set_option linter.unusedSimpArgs false
set_option maxRecDepth 100000 in
set_option maxHeartbeats 1000000 in
theorem div64_zero (lo y : Int) (w : World) (h1 : 0 < y) (h2 : y < 18446744073709551616) (h3 : 0 ≤ lo) (h4 : lo < 18446744073709551616) :
    Calls Tryd.prog 87 #[.int .u64 0, .int .u64 lo, .int .u64 y] w fun e w' => e = .returned (.tuple #[.int .u64 (lo / y), .int .u64 (lo % y)]) ∧ ∃ n, w' = w.drewN n := by
  have hy0 : (y == 0) = false := by simp; omega
  have hyh : ¬ y ≤ 0 := by omega
  have hy : ¬ y = 0 := by omega
  go_enter Tryd.func87, Tryd.ntmps87
  go_wp2
  go_quiet (fail)
  go_wp2
  go_ret2
  exact ⟨rfl, _, rfl⟩
theorem div64_ex (hi lo y : Int) (h0 : 0 ≤ hi) (h1 : hi < y) (h2 : y < 18446744073709551616) (h3 : 0 ≤ lo) (h4 : lo < 18446744073709551616) :
    ∃ d r : Int, (∀ W : World, Calls Tryd.prog 87 #[.int .u64 hi, .int .u64 lo, .int .u64 y] W fun e w' => e = .returned (.tuple #[.int .u64 d, .int .u64 r]) ∧ ∃ n, w' = W.drewN n) ∧
      (0 ≤ d ∧ d < 18446744073709551616) ∧ (0 ≤ r ∧ r < y) ∧ d * y + r = hi * 18446744073709551616 + lo := by
  refine ⟨(hi * 18446744073709551616 + lo) / y, (hi * 18446744073709551616 + lo) % y, fun W => ?_, ?_, ⟨Int.emod_nonneg _ (by omega), Int.emod_lt_of_pos _ (by omega)⟩, ?_⟩
  · by_cases hh : hi = 0
    · subst hh
      rw [Int.zero_mul, Int.zero_add]
      exact div64_zero lo y W h1 h2 h3 h4
    · refine (div64_pos hi lo y W (by omega) h1 h2 h3 h4).mono ?_
      rintro e w' ⟨rfl, rfl⟩
      exact ⟨rfl, 0, rfl⟩
  · refine ⟨Int.ediv_nonneg (by omega) (by omega), Int.ediv_lt_of_lt_mul (by omega) ?_⟩
    have : (hi + 1) * 18446744073709551616 ≤ y * 18446744073709551616 := Int.mul_le_mul_of_nonneg_right (by omega) (by decide)
    rw [Int.mul_comm 18446744073709551616 y]; omega
  · have := Int.mul_ediv_add_emod (hi * 18446744073709551616 + lo) y
    rw [Int.mul_comm ((hi * 18446744073709551616 + lo) / y) y]; exact this
theorem V_cons (q : Int) (L : List Int) (off m : Nat) : V q L off (m + 1) = dig L off + q * V q L (off + 1) m := by
  have := V_split q L off 1 m
  rw [Nat.add_comm 1 m] at this
  rw [this, V_succ, V_zero, Int.pow_one]; simp
/-- the upper digits of x, from place k on, were divided by y: the quotient's lie in Lk, r is left -/
structure QuoSt (q : Int) (L x : List Int) (y : Int) (off n k : Nat) (r : Int) (Lk : List Int) : Prop where
  len : Lk.length = L.length
  out : ∀ j, j < off + k ∨ off + n ≤ j → dig Lk j = dig L j
  wd : Wd q Lk
  r0 : 0 ≤ r
  r1 : r < y
  eq : V q Lk (off + k) (n - k) * y + r = V q x k (n - k)
theorem QuoSt.start {q : Int} {L x : List Int} {y : Int} (off n : Nat) (h : Wd q L) (hy : 0 < y) : QuoSt q L x y off n n 0 L :=
  ⟨rfl, fun _ _ => rfl, h, Int.le_refl _, hy, by simp [V_zero]⟩
theorem QuoSt.step {q : Int} {L x : List Int} {y : Int} {off n k : Nat} {r : Int} {Lk : List Int} (h : QuoSt q L x y off n (k + 1) r Lk) (hk : k < n) (hl : off + n ≤ L.length) {d r' : Int} (hd : 0 ≤ d ∧ d < q) (hr : 0 ≤ r' ∧ r' < y)
    (he : d * y + r' = r * q + dig x k) : QuoSt q L x y off n k r' (Lk.set (off + k) d) := by
  have hl2 : off + k < Lk.length := by rw [h.len]; omega
  refine ⟨by simp [h.len], fun j hj => ?_, h.wd.set _ hd, hr.1, hr.2, ?_⟩
  · rw [dig_set _ hl2, if_neg (by omega)]; exact h.out j (by omega)
  · have e0 : n - k = (n - (k + 1)) + 1 := by omega
    rw [e0, V_cons, V_cons, dig_set _ hl2, if_pos rfl]
    have e1 : V q (Lk.set (off + k) d) (off + k + 1) (n - (k + 1)) = V q Lk (off + (k + 1)) (n - (k + 1)) := V_congr fun j hj => by rw [dig_set _ hl2, if_neg (by omega)]; rfl
    rw [e1]
    have := h.eq
    grind
end Go.Proofs.YtnniipekcbjloaaDoor
/- Walks: subTimes, upBits, downBits. -/
namespace Go.Proofs.YtnniipekcbjloaaDoor
open Go.RowKit
set_option linter.unusedVariables false
set_option linter.unusedSimpArgs false
/-- the first k digits of x, u times, were taken from those of L from off on; c is borrowed -/
structure OffSt (q : Int) (L x : List Int) (u : Int) (off k : Nat) (c : Int) (Lk : List Int) : Prop where
  len : Lk.length = L.length
  out : ∀ j, j < off ∨ off + k ≤ j → dig Lk j = dig L j
  wd : Wd q Lk
  c0 : 0 ≤ c
  c1 : c < q
  eq : V q Lk off k + u * val q (x.take k) = V q L off k + c * q ^ k
theorem OffSt.start {q : Int} {L x : List Int} {u : Int} (off : Nat) (h : Wd q L) (hq : 0 < q) : OffSt q L x u off 0 0 L :=
  ⟨rfl, fun _ _ => rfl, h, Int.le_refl _, hq, by simp [V_zero, val]⟩
theorem OffSt.step {q : Int} {L x : List Int} {u : Int} {off k : Nat} {c : Int} {Lk : List Int} (h : OffSt q L x u off k c Lk) (hk : off + k < L.length) {d c' : Int} (hd : 0 ≤ d ∧ d < q) (hc : 0 ≤ c' ∧ c' < q)
    (he : d + dig x k * u + c = dig L (off + k) + c' * q) : OffSt q L x u off (k + 1) c' (Lk.set (off + k) d) := by
  have hl : off + k < Lk.length := by rw [h.len]; exact hk
  refine ⟨by simp [h.len], fun j hj => ?_, h.wd.set _ hd, hc.1, hc.2, ?_⟩
  · rw [dig_set _ hl, if_neg (by omega)]; exact h.out j (by omega)
  · have e1 : V q (Lk.set (off + k) d) off k = V q Lk off k := V_congr fun j hj => by rw [dig_set _ hl, if_neg (by omega)]
    rw [V_succ, V_succ, e1, dig_set _ hl, if_pos rfl, val_take_dig, Int.pow_succ]
    have h1 := h.eq
    have e2 : q ^ k * (d + dig x k * u + c) = q ^ k * (dig L (off + k) + c' * q) := by rw [he]
    grind
theorem pow_pair {s : Nat} (hs : s < 64) : ∃ P R : Nat, 2 ^ s = P ∧ 2 ^ (64 - s) = R ∧ 0 < P ∧ 0 < R ∧ P * R = 18446744073709551616 ∧ ((2 : Int) ^ s = P) ∧ ((2 : Int) ^ (64 - s) = R) :=
  ⟨_, _, rfl, rfl, Nat.two_pow_pos _, Nat.two_pow_pos _, by rw [← Nat.pow_add, show s + (64 - s) = 64 by omega], by rw [Int.natCast_pow]; rfl, by rw [Int.natCast_pow]; rfl⟩
theorem or_low {a b s P : Nat} (hP : 2 ^ s = P) (hb : b < P) : (a * P) ||| b = a * P + b := by
  have := Nat.shiftLeft_add_eq_or_of_lt (i := s) (b := b) (by rw [hP]; exact hb) a
  rw [Nat.shiftLeft_eq, hP] at this
  exact this.symm
theorem up_ex (x : Int) (s : Nat) (o : Int) (hs : s < 64) (hx : 0 ≤ x ∧ x < 18446744073709551616) (ho : 0 ≤ o ∧ o < 2 ^ s) :
    ∃ d c : Int, bits .or .u64 (IntKind.u64.wrap (x * 2 ^ s)) o = d ∧ x / 2 ^ (64 - s) = c ∧ (0 ≤ d ∧ d < 18446744073709551616) ∧ (0 ≤ c ∧ c < 2 ^ s) ∧ d + c * 18446744073709551616 = x * 2 ^ s + o := by
  obtain ⟨P, R, hP, hR, hP0, hR0, hPR, hPi, hRi⟩ := pow_pair hs
  obtain ⟨x, rfl⟩ := Int.eq_ofNat_of_zero_le hx.1
  obtain ⟨o, rfl⟩ := Int.eq_ofNat_of_zero_le ho.1
  rw [hPi] at ho ⊢
  rw [hRi]
  have h1 := Nat.div_add_mod x R
  have h2 : x % R < R := Nat.mod_lt _ hR0
  obtain ⟨c, hc⟩ : ∃ c, x / R = c := ⟨_, rfl⟩
  obtain ⟨t, ht⟩ : ∃ t, x % R = t := ⟨_, rfl⟩
  rw [hc, ht] at h1
  rw [ht] at h2
  have hcP : c < P := by rw [← hc, Nat.div_lt_iff_lt_mul hR0, hPR]; omega
  have hxP : x * P = c * 18446744073709551616 + t * P := by rw [← h1, ← hPR]; grind
  have htP : t * P + P ≤ 18446744073709551616 := by
    have : (t + 1) * P ≤ R * P := Nat.mul_le_mul_right P h2
    rw [Nat.add_mul, Nat.mul_comm R P, hPR] at this; omega
  refine ⟨((t * P + o : Nat) : Int), (c : Int), ?_, ?_, by omega, by omega, ?_⟩
  · rw [← Int.natCast_mul, hxP, IntKind.wrap_u64]
    have e : ((c * 18446744073709551616 + t * P : Nat) : Int) % 18446744073709551616 = ((t * P : Nat) : Int) := by omega
    rw [e, bits_or_u64_nat _ _ (by omega) (by omega), or_low hP (by omega)]
  · rw [← hc, Int.natCast_ediv]
  · rw [← Int.natCast_mul, hxP]; omega
theorem down_ex (x : Int) (s : Nat) (o : Int) (hs : s < 64) (hx : 0 ≤ x ∧ x < 18446744073709551616) (ho : 0 ≤ o ∧ o < 2 ^ s) :
    ∃ d t : Int, bits .or .u64 (x / 2 ^ s) (o * 2 ^ (64 - s)) = d ∧ IntKind.u64.wrap (x * 2 ^ (64 - s)) = t * 2 ^ (64 - s) ∧ (0 ≤ d ∧ d < 18446744073709551616) ∧ (0 ≤ t ∧ t < 2 ^ s) ∧ d * 2 ^ s + t = o * 18446744073709551616 + x := by
  obtain ⟨P, R, hP, hR, hP0, hR0, hPR, hPi, hRi⟩ := pow_pair hs
  obtain ⟨x, rfl⟩ := Int.eq_ofNat_of_zero_le hx.1
  obtain ⟨o, rfl⟩ := Int.eq_ofNat_of_zero_le ho.1
  rw [hPi] at ho ⊢
  rw [hRi]
  have h1 := Nat.div_add_mod x P
  have h2 : x % P < P := Nat.mod_lt _ hP0
  obtain ⟨c, hc⟩ : ∃ c, x / P = c := ⟨_, rfl⟩
  obtain ⟨t, ht⟩ : ∃ t, x % P = t := ⟨_, rfl⟩
  rw [hc, ht] at h1
  rw [ht] at h2
  have hcR : c < R := by rw [← hc, Nat.div_lt_iff_lt_mul hP0, Nat.mul_comm, hPR]; omega
  have hxR : x * R = c * 18446744073709551616 + t * R := by rw [← h1, ← hPR]; grind
  have htR : t * R + R ≤ 18446744073709551616 := by
    have : (t + 1) * R ≤ P * R := Nat.mul_le_mul_right R h2
    rw [Nat.add_mul, hPR] at this; omega
  have hoR : o * R + R ≤ 18446744073709551616 := by
    have : (o + 1) * R ≤ P * R := Nat.mul_le_mul_right R (by omega)
    rw [Nat.add_mul, hPR] at this; omega
  refine ⟨((o * R + c : Nat) : Int), (t : Int), ?_, ?_, by omega, by omega, ?_⟩
  · have e : ((x : Int) / (P : Int)) = ((c : Nat) : Int) := by rw [← hc, Int.natCast_ediv]
    rw [← Int.natCast_mul, e, bits_or_u64_nat _ _ (by omega) (by omega), Nat.or_comm, or_low hR hcR]
  · rw [← Int.natCast_mul, hxR, IntKind.wrap_u64, ← Int.natCast_mul]; omega
  · have e : (o * R + c) * P = o * 18446744073709551616 + c * P := by rw [← hPR]; grind
    have e2 : c * P + t = x := by rw [Nat.mul_comm]; exact h1
    rw [← Int.natCast_mul, e]; omega
/-- the first k digits of x, times P, were laid into L from off on; c is carried -/
structure UpSt (q : Int) (L x : List Int) (P : Int) (off k : Nat) (c : Int) (Lk : List Int) : Prop where
  len : Lk.length = L.length
  out : ∀ j, j < off ∨ off + k ≤ j → dig Lk j = dig L j
  wd : Wd q Lk
  c0 : 0 ≤ c
  c1 : c < P
  eq : V q Lk off k + c * q ^ k = P * val q (x.take k)
theorem UpSt.start {q : Int} {L x : List Int} {P : Int} (off : Nat) (h : Wd q L) (hq : 0 < P) : UpSt q L x P off 0 0 L :=
  ⟨rfl, fun _ _ => rfl, h, Int.le_refl _, hq, by simp [V_zero, val]⟩
theorem UpSt.step {q : Int} {L x : List Int} {P : Int} {off k : Nat} {c : Int} {Lk : List Int} (h : UpSt q L x P off k c Lk) (hk : off + k < L.length) {d c' : Int} (hd : 0 ≤ d ∧ d < q) (hc : 0 ≤ c' ∧ c' < P)
    (he : d + c' * q = dig x k * P + c) : UpSt q L x P off (k + 1) c' (Lk.set (off + k) d) := by
  have hl : off + k < Lk.length := by rw [h.len]; exact hk
  refine ⟨by simp [h.len], fun j hj => ?_, h.wd.set _ hd, hc.1, hc.2, ?_⟩
  · rw [dig_set _ hl, if_neg (by omega)]; exact h.out j (by omega)
  · have e1 : V q (Lk.set (off + k) d) off k = V q Lk off k := V_congr fun j hj => by rw [dig_set _ hl, if_neg (by omega)]
    rw [V_succ, e1, dig_set _ hl, if_pos rfl, val_take_dig, Int.pow_succ]
    have h1 := h.eq
    have e2 : q ^ k * (d + c' * q) = q ^ k * (dig x k * P + c) := by rw [he]
    grind
end Go.Proofs.YtnniipekcbjloaaDoor
/- Walks: guessLimb. -/
namespace Go.Proofs.YtnniipekcbjloaaDoor
open Go.RowKit
set_option linter.unusedVariables false
set_option linter.unusedSimpArgs false
/-- g is the quotient's limb by the upper limbs, at most the greatest one -/
def IsGuess (u2 u1 u0 v1 v0 g : Int) : Prop := 0 ≤ g ∧ g < 18446744073709551616 ∧ g * (v1 * 18446744073709551616 + v0) ≤ (u2 * 18446744073709551616 + u1) * 18446744073709551616 + u0 ∧ ((u2 * 18446744073709551616 + u1) * 18446744073709551616 + u0 < (g + 1) * (v1 * 18446744073709551616 + v0) ∨ g = 18446744073709551615)
structure GSt (u2 u1 u0 v1 v0 g r : Int) : Prop where
  eq : g * v1 + r = u2 * 18446744073709551616 + u1
  r0 : 0 ≤ r
  r1 : r < 18446744073709551616
  g0 : 0 ≤ g
  g1 : g < 18446744073709551616
  up : (u2 * 18446744073709551616 + u1) * 18446744073709551616 + u0 < (g + 1) * (v1 * 18446744073709551616 + v0) ∨ g = 18446744073709551615
theorem GSt.done {u2 u1 u0 v1 v0 g r hi lo : Int} (h : GSt u2 u1 u0 v1 v0 g r) (hm : hi * 18446744073709551616 + lo = g * v0) (l0 : 0 ≤ lo) (l1 : lo < 18446744073709551616) (k0 : 0 ≤ u0) (k1 : u0 < 18446744073709551616) (ht : hi < r ∨ hi = r ∧ lo ≤ u0) : IsGuess u2 u1 u0 v1 v0 g := by
  refine ⟨h.g0, h.g1, ?_, h.up⟩
  have e : g * (v1 * 18446744073709551616 + v0) = (g * v1) * 18446744073709551616 + g * v0 := by grind
  have := h.eq
  rw [e, ← hm]; omega
theorem GSt.less {u2 u1 u0 v1 v0 g r hi lo : Int} (h : GSt u2 u1 u0 v1 v0 g r) (hm : hi * 18446744073709551616 + lo = g * v0) (l0 : 0 ≤ lo) (l1 : lo < 18446744073709551616) (k0 : 0 ≤ u0) (k1 : u0 < 18446744073709551616) (h1 : ¬ hi < r) (h2 : ¬ (hi = r ∧ lo ≤ u0)) :
    1 ≤ g ∧ (u2 * 18446744073709551616 + u1) * 18446744073709551616 + u0 < (g - 1 + 1) * (v1 * 18446744073709551616 + v0) ∧ (g - 1) * v1 + (r + v1) = u2 * 18446744073709551616 + u1 := by
  have e : g * (v1 * 18446744073709551616 + v0) = (g * v1) * 18446744073709551616 + g * v0 := by grind
  have h3 := h.eq
  have h4 : (u2 * 18446744073709551616 + u1) * 18446744073709551616 + u0 < g * (v1 * 18446744073709551616 + v0) := by rw [e, ← hm]; omega
  refine ⟨?_, by rw [Int.sub_add_cancel]; exact h4, by rw [Int.sub_mul]; omega⟩
  by_cases hg : g = 0
  · subst hg
    rw [Int.zero_mul] at h3 hm
    have := h.r0
    omega
  · have := h.g0; omega
theorem GSt.next {u2 u1 u0 v1 v0 g r d : Int} (h : GSt u2 u1 u0 v1 v0 g r) (hl : 1 ≤ g ∧ (u2 * 18446744073709551616 + u1) * 18446744073709551616 + u0 < (g - 1 + 1) * (v1 * 18446744073709551616 + v0) ∧ (g - 1) * v1 + (r + v1) = u2 * 18446744073709551616 + u1) (hd : d = r + v1) (hb : 0 ≤ d ∧ d < 18446744073709551616) : GSt u2 u1 u0 v1 v0 (g - 1) d := by
  have := h.g1
  exact ⟨by rw [hd]; exact hl.2.2, hb.1, hb.2, by omega, by omega, Or.inl hl.2.1⟩
theorem GSt.over {u2 u1 u0 v1 v0 g r : Int} (h : GSt u2 u1 u0 v1 v0 g r) (hl : 1 ≤ g ∧ (u2 * 18446744073709551616 + u1) * 18446744073709551616 + u0 < (g - 1 + 1) * (v1 * 18446744073709551616 + v0) ∧ (g - 1) * v1 + (r + v1) = u2 * 18446744073709551616 + u1) (ho : 18446744073709551616 ≤ r + v1) (k0 : 0 ≤ u0) (k1 : 0 ≤ v0) (k2 : v0 < 18446744073709551616) : IsGuess u2 u1 u0 v1 v0 (g - 1) := by
  have h1 := h.g1
  refine ⟨by omega, by omega, ?_, Or.inl hl.2.1⟩
  have e : (g - 1) * (v1 * 18446744073709551616 + v0) = ((g - 1) * v1) * 18446744073709551616 + (g - 1) * v0 := by grind
  have e2 : (g - 1) * v0 ≤ 18446744073709551615 * 18446744073709551615 := Int.mul_le_mul (by omega) (by omega) k1 (by decide)
  have e3 := hl.2.2
  rw [e]; omega
theorem GSt.first {u2 u1 u0 v1 v0 d r : Int} (he : d * v1 + r = u2 * 18446744073709551616 + u1) (hd : 0 ≤ d ∧ d < 18446744073709551616) (hr : 0 ≤ r ∧ r < v1) (hv : v1 < 18446744073709551616) (k0 : u0 < 18446744073709551616) (k1 : 0 ≤ v0) : GSt u2 u1 u0 v1 v0 d r := by
  refine ⟨he, hr.1, by omega, hd.1, hd.2, Or.inl ?_⟩
  have e : (d + 1) * (v1 * 18446744073709551616 + v0) = (d * v1 + v1) * 18446744073709551616 + (d + 1) * v0 := by grind
  have e2 : 0 ≤ (d + 1) * v0 := Int.mul_nonneg (by omega) k1
  rw [e]; omega
theorem IsGuess.top {u1 u0 v1 v0 : Int} (ho : 18446744073709551616 ≤ u1 + v1) (k0 : 0 ≤ u0) (k1 : 0 ≤ v0) (k2 : v0 < 18446744073709551616) : IsGuess v1 u1 u0 v1 v0 18446744073709551615 := by
  refine ⟨by decide, by decide, ?_, Or.inr rfl⟩
  omega
theorem GSt.second {u1 u0 v1 v0 r : Int} (hr : r = u1 + v1) (h0 : 0 ≤ r) (h1 : r < 18446744073709551616) : GSt v1 u1 u0 v1 v0 18446744073709551615 r :=
  ⟨by omega, h0, h1, by decide, by decide, Or.inr rfl⟩
/-- there is one such limb -/
theorem IsGuess.one {u2 u1 u0 v1 v0 g g' : Int} (hv : 0 < v1) (hv0 : 0 ≤ v0) (h : IsGuess u2 u1 u0 v1 v0 g) (h' : IsGuess u2 u1 u0 v1 v0 g') : g = g' := by
  obtain ⟨a1, a2, a3, a4⟩ := h
  obtain ⟨b1, b2, b3, b4⟩ := h'
  have hD : 0 < v1 * 18446744073709551616 + v0 := by omega
  obtain ⟨D, hDe⟩ : ∃ D, v1 * 18446744073709551616 + v0 = D := ⟨_, rfl⟩
  obtain ⟨U, hU⟩ : ∃ U, (u2 * 18446744073709551616 + u1) * 18446744073709551616 + u0 = U := ⟨_, rfl⟩
  rw [hDe] at hD a3 a4 b3 b4; rw [hU] at a3 a4 b3 b4
  have c1 : g ≤ g' := by
    rcases b4 with h | h
    · have : g * D < (g' + 1) * D := Int.lt_of_le_of_lt a3 h
      have := Int.lt_of_mul_lt_mul_right this (by omega)
      omega
    · omega
  have c2 : g' ≤ g := by
    rcases a4 with h | h
    · have : g' * D < (g + 1) * D := Int.lt_of_le_of_lt b3 h
      have := Int.lt_of_mul_lt_mul_right this (by omega)
      omega
    · omega
  omega
end Go.Proofs.YtnniipekcbjloaaDoor
/-
  JB0: polynomials in plain: values, shifts, products (what was JB's first part).
-/
/- Polynomials in plain: values, shifts by Horner's steps, products by rows, mirrored and turned ones; how many limbs their coefficients have. No Go text is named here. -/
namespace Go.Proofs.YtnniipekcbjloaaDoor
open Go.RowKit
set_option linter.unusedVariables false
set_option linter.unusedSimpArgs false
/-- a polynomial's value -/
def ev : List Int → Int → Int
  | [], _ => 0
  | a :: p, x => a + x * ev p x
/-- a polynomial that is 0 at all great places is 0 -/
theorem zero_of_ev : ∀ {p : List Int} {N : Nat}, (∀ x : Int, (N : Int) < x → ev p x = 0) → ∀ a ∈ p, a = 0 := by
  intro p
  induction p with
  | nil => intro N h a ha; cases ha
  | cons a p ih =>
    intro N h
    have ha : a = 0 := by
      have hx : (N : Int) < (a.natAbs : Int) + N + 1 := by omega
      have h1 := h _ hx
      simp only [ev] at h1
      have h2 : ((a.natAbs : Int) + N + 1) ∣ a := ⟨-(ev p ((a.natAbs : Int) + N + 1)), by rw [Int.mul_neg]; omega⟩
      have h3 : ((a.natAbs : Int) + N + 1).natAbs ∣ a.natAbs := Int.natAbs_dvd_natAbs.2 h2
      rcases Nat.eq_zero_or_pos a.natAbs with h4 | h4
      · omega
      · have := Nat.le_of_dvd h4 h3
        omega
    subst ha
    have h3 : ∀ x : Int, (N : Int) < x → ev p x = 0 := by
      intro x hx
      have h1 := h x (by omega)
      simp only [ev, Int.zero_add] at h1
      rcases Int.mul_eq_zero.1 h1 with h2 | h2
      · omega
      · exact h2
    intro b hb
    rcases List.mem_cons.1 hb with rfl | hb
    · rfl
    · exact ih h3 b hb
/-- polynomials with the same values, and as many coefficients, are the same -/
theorem eq_of_ev : ∀ {p q : List Int}, p.length = q.length → (∀ x, ev p x = ev q x) → p = q := by
  intro p q hl h
  have key : ∀ (p q : List Int), p.length = q.length → ∀ x, ev (List.zipWith (fun a b => a - b) p q) x = ev p x - ev q x := by
    intro p
    induction p with
    | nil => intro q hl x; cases q <;> simp_all [ev]
    | cons a p ih =>
      intro q hl x
      cases q with
      | nil => simp at hl
      | cons b q =>
        simp only [List.zipWith_cons_cons, ev]
        rw [ih q (by simpa using hl) x, Int.mul_sub]; omega
  have hz := zero_of_ev (p := List.zipWith (fun a b => a - b) p q) (N := 0) (fun x _ => by rw [key p q hl, h x]; omega)
  apply List.ext_getElem hl
  intro i h1 h2
  have hm : p[i] - q[i] ∈ List.zipWith (fun a b => a - b) p q := by
    rw [List.mem_iff_getElem]
    exact ⟨i, by simp; omega, by simp⟩
  have := hz _ hm
  omega
/-- Horner's step: a + (x + c) s -/
def hor (c : Int) : Int → List Int → List Int
  | a, [] => [a]
  | a, s :: t => (a + c * s) :: hor c s t
theorem hor_len (c a : Int) (s : List Int) : (hor c a s).length = s.length + 1 := by
  induction s generalizing a with
  | nil => rfl
  | cons s t ih => simp [hor, ih]
/-- p(x + c) -/
def sh (c : Int) : List Int → List Int
  | [] => []
  | a :: p => hor c a (sh c p)
theorem sh_len (c : Int) (p : List Int) : (sh c p).length = p.length := by
  induction p with
  | nil => rfl
  | cons a p ih => simp [sh, hor_len, ih]
/-- the i-th coefficient of a Horner step -/
theorem hor_dig (c a : Int) (s : List Int) (k : Nat) : dig (hor c a s) (k + 1) = dig s k + c * dig s (k + 1) := by
  induction s generalizing a k with
  | nil => simp [hor, dig]
  | cons s t ih =>
    cases k with
    | zero => cases t <;> simp [hor, dig]
    | succ k => simpa [hor, dig] using ih s k
theorem hor_dig0 (c a : Int) (s : List Int) : dig (hor c a s) 0 = a + c * dig s 0 := by
  cases s <;> simp [hor, dig]
/-- the first list added to the second one, place by place -/
def addTo : List Int → List Int → List Int
  | [], l => l
  | a :: p, [] => a :: p
  | a :: p, b :: l => (a + b) :: addTo p l
theorem addTo_ev (p l : List Int) (x : Int) : ev (addTo p l) x = ev p x + ev l x := by
  induction p generalizing l with
  | nil => simp [addTo, ev]
  | cons a p ih => cases l with
    | nil => simp [addTo, ev]
    | cons b l => simp only [addTo, ev, ih]; grind
theorem addTo_len (p l : List Int) (h : p.length ≤ l.length) : (addTo p l).length = l.length := by
  induction p generalizing l with
  | nil => rfl
  | cons a p ih => cases l with
    | nil => simp at h
    | cons b l => simp only [addTo, List.length_cons]; rw [ih l (by simpa using h)]
theorem addTo_dig (p l : List Int) (k : Nat) : dig (addTo p l) k = dig p k + dig l k := by
  induction p generalizing l k with
  | nil => simp [addTo, dig]
  | cons a p ih => cases l with
    | nil => simp [addTo, dig]
    | cons b l => cases k with
      | zero => simp [addTo, dig]
      | succ k => simpa [addTo, dig] using ih l k
theorem map_ev (a : Int) (s : List Int) (x : Int) : ev (s.map (a * ·)) x = a * ev s x := by
  induction s with
  | nil => simp [ev]
  | cons b s ih => simp only [List.map_cons, ev, ih]; grind
theorem map_dig (a : Int) (s : List Int) (k : Nat) : dig (s.map (a * ·)) k = a * dig s k := by
  unfold dig
  rw [List.getD_eq_getElem?_getD, List.getD_eq_getElem?_getD, List.getElem?_map]
  cases s[k]? <;> simp
theorem rep_ev (n : Nat) (x : Int) : ev (List.replicate n 0) x = 0 := by
  induction n with
  | zero => rfl
  | succ n ih => simp [List.replicate_succ, ev, ih]
theorem rep_dig (n k : Nat) : dig (List.replicate n 0) k = 0 := by
  unfold dig
  rw [List.getD_eq_getElem?_getD, List.getElem?_replicate]
  split <;> rfl
/-- the product -/
def mulL : List Int → List Int → List Int
  | [], s => List.replicate (s.length - 1) 0
  | a :: p, s => addTo (s.map (a * ·)) (0 :: mulL p s)
theorem mulL_len (p s : List Int) (h : 0 < s.length) : (mulL p s).length = p.length + s.length - 1 := by
  induction p with
  | nil => simp [mulL]
  | cons a p ih =>
    rw [mulL, addTo_len _ _ (by simp [ih]; omega)]
    simp [ih]; omega
theorem mulL_ev (p s : List Int) (x : Int) : ev (mulL p s) x = ev p x * ev s x := by
  induction p with
  | nil => simp [mulL, rep_ev, ev]
  | cons a p ih => simp only [mulL, addTo_ev, map_ev, ev, ih]; grind
theorem dig_past {s : List Int} {k : Nat} (h : s.length ≤ k) : dig s k = 0 := by
  unfold dig; rw [List.getD_eq_getElem?_getD, List.getElem?_eq_none h]; rfl
theorem dig_cons (a : Int) (p : List Int) (k : Nat) : dig (a :: p) (k + 1) = dig p k := by simp [dig]
/-- the product's lead -/
theorem mulL_lead (p s : List Int) (hp : 0 < p.length) (h : 0 < s.length) : dig (mulL p s) (p.length + s.length - 2) = dig p (p.length - 1) * dig s (s.length - 1) := by
  induction p with
  | nil => simp at hp
  | cons a p ih =>
    rw [mulL, addTo_dig, map_dig]
    cases p with
    | nil =>
      have e1 : ([a] : List Int).length + s.length - 2 = s.length - 1 := by simp; omega
      rw [e1]
      cases hs : s.length - 1 with
      | zero => simp [dig]
      | succ k => rw [dig_cons]; simp only [mulL, rep_dig]; simp [dig]
    | cons b p =>
      have e1 : (a :: b :: p).length + s.length - 2 = ((b :: p).length + s.length - 2) + 1 := by simp; omega
      rw [e1, dig_past (s := s) (by simp; omega), dig_cons, ih (by simp)]
      have e2 : (a :: b :: p).length - 1 = ((b :: p).length - 1) + 1 := by simp
      rw [e2, dig_cons]; simp
/-- a coefficient is added to -/
theorem ev_set (l : List Int) (j : Nat) (v x : Int) (h : j < l.length) : ev (l.set j (dig l j + v)) x = ev l x + v * x ^ j := by
  induction l generalizing j with
  | nil => simp at h
  | cons a l ih => cases j with
    | zero => simp [ev, dig]; omega
    | succ j =>
      have := ih j (by simpa using h)
      simp only [List.set_cons_succ, ev, dig_cons, this, Int.pow_succ]; grind
theorem ev_take (l : List Int) (j : Nat) (x : Int) (h : j < l.length) : ev (l.take (j + 1)) x = ev (l.take j) x + dig l j * x ^ j := by
  induction l generalizing j with
  | nil => simp at h
  | cons a l ih => cases j with
    | zero => simp [ev, dig]
    | succ j =>
      have := ih j (by simpa using h)
      simp only [List.take_succ_cons, ev, dig_cons, this, Int.pow_succ]; grind
/-- the sums of a product by rows: all of the rows above i, of row i the first k -/
def PMulSt (p s : List Int) (i k : Nat) (l : List Int) : Prop := l.length = p.length + s.length - 1 ∧ ∀ x, ev l x = ev (p.take i) x * ev s x + dig p i * x ^ i * ev (s.take k) x
theorem PMulSt.start (p s : List Int) : PMulSt p s 0 0 (List.replicate (p.length + s.length - 1) 0) := ⟨by simp, fun x => by simp [rep_ev, ev]⟩
theorem PMulSt.step {p s l : List Int} {i k : Nat} (h : PMulSt p s i k l) (hi : i < p.length) (hk : k < s.length) : PMulSt p s i (k + 1) (l.set (i + k) (dig l (i + k) + dig p i * dig s k)) := by
  refine ⟨by simpa using h.1, fun x => ?_⟩
  rw [ev_set _ _ _ _ (by rw [h.1]; omega), h.2 x, ev_take _ _ _ hk, Int.pow_add]; grind
theorem PMulSt.row {p s l : List Int} {i : Nat} (h : PMulSt p s i s.length l) (hi : i < p.length) : PMulSt p s (i + 1) 0 l := by
  refine ⟨h.1, fun x => ?_⟩
  rw [h.2 x, ev_take _ _ _ hi, List.take_length]
  simp [ev]; grind
theorem PMulSt.done {p s l : List Int} (h : PMulSt p s p.length 0 l) (hs : 0 < s.length) : l = mulL p s :=
  eq_of_ev (by rw [h.1, mulL_len _ _ hs]) fun x => by rw [h.2 x, mulL_ev]; simp [ev]
theorem pdig_set (l : List Int) (j t : Nat) (v : Int) (h : t < l.length) : dig (l.set j v) t = if t = j then v else dig l t := by
  unfold dig
  rw [List.getD_eq_getElem?_getD, List.getD_eq_getElem?_getD, List.getElem?_set]
  by_cases e : j = t
  · subst e; simp [h]
  · simp [e, Ne.symm e, show ¬ t = j from fun x => e x.symm]
end Go.Proofs.YtnniipekcbjloaaDoor
