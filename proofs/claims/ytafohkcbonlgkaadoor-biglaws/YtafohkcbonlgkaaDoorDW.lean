/-
  Walks: math/bits.Div64.
-/
import Derived.Test.YtafohkcbonlgkaaDoorDV
namespace Go.Proofs.YtafohkcbonlgkaaDoor
open Go.RowKit
set_option linter.unusedVariables false
set_option linter.unusedSimpArgs false

theorem brk_done {b1 b0 Y U V q r : Int} (hY : Y = b1 * 4294967296 + b0) (h : (q - 1) * b1 + (r + b1) = U ∧ 0 ≤ q - 1 ∧ U * 4294967296 + V < (q - 1 + 1) * (b1 * 4294967296 + b0) ∧ q - 1 ≤ 4294967296) (h0 : 0 ≤ b0) (h0' : b0 < 4294967296) (hV : 0 ≤ V) (hr : 4294967296 ≤ r + b1) :
    (q - 1) * Y ≤ U * 4294967296 + V ∧ U * 4294967296 + V < (q - 1 + 1) * Y := by
  obtain ⟨e1, e2, e3, e4⟩ := h
  refine ⟨?_, by rw [hY]; exact e3⟩
  have e5 : (q - 1) * Y = ((q - 1) * b1) * 4294967296 + (q - 1) * b0 := by rw [hY]; grind
  have e6 : (q - 1) * b0 ≤ 4294967296 * 4294967295 := Int.mul_le_mul e4 (by omega) h0 (by decide)
  rw [e5]; omega
/-- a digit found: what is left, reckoned with wraps, is what is left -/
theorem digit_rule {Y U V q : Int} (h1 : q * Y ≤ U * 4294967296 + V) (h2 : U * 4294967296 + V < (q + 1) * Y) (hY1 : 9223372036854775808 ≤ Y) (hY2 : Y < 18446744073709551616) (hU : U < Y) (hV : 0 ≤ V) (hV' : V < 4294967296) :
    ∃ R, IntKind.u64.wrap (IntKind.u64.wrap (IntKind.u64.wrap (U * 4294967296) + V) - IntKind.u64.wrap (q * Y)) = R ∧ 0 ≤ R ∧ R < Y ∧ q < 4294967296 ∧ True ∧ U * 4294967296 + V - q * Y = R := by
  have e : (q + 1) * Y = q * Y + Y := by grind
  rw [e] at h2
  have hq : q < 4294967296 := by
    by_cases h : q < 4294967296
    · exact h
    · have : 4294967296 * Y ≤ q * Y := Int.mul_le_mul_of_nonneg_right (by omega) (by omega)
      omega
  refine ⟨U * 4294967296 + V - q * Y, ?_, by omega, by omega, hq, trivial, rfl⟩
  obtain ⟨T, hT⟩ : ∃ T, q * Y = T := ⟨_, rfl⟩
  rw [hT] at h1 h2 ⊢
  rw [IntKind.wrap_u64, IntKind.wrap_u64, IntKind.wrap_u64, IntKind.wrap_u64]; omega

/-- both digits found: the quotient, and what is left -/
theorem div_finish {hi lo y P Y u un10 v1 v0 qa qb R1 R2 : Int} (hY : Y = y * P) (hP : 0 < P) (hy : 0 < y) (he : (hi * 18446744073709551616 + lo) * P = u * 18446744073709551616 + un10) (hl : un10 = v1 * 4294967296 + v0)
    (h1 : u * 4294967296 + v1 - qa * Y = R1) (h2 : R1 * 4294967296 + v0 - qb * Y = R2) (hR0 : 0 ≤ R2) (hR1 : R2 < Y) :
    (hi * 18446744073709551616 + lo) / y = qa * 4294967296 + qb ∧ (hi * 18446744073709551616 + lo) % y = R2 / P := by
  obtain ⟨X, hX⟩ : ∃ X, hi * 18446744073709551616 + lo = X := ⟨_, rfl⟩
  rw [hX] at he ⊢
  have e1 : R2 = (X - (qa * 4294967296 + qb) * y) * P := by
    have : (X - (qa * 4294967296 + qb) * y) * P = X * P - (qa * 4294967296 + qb) * (y * P) := by grind
    rw [this, ← hY, he, hl]; grind
  obtain ⟨Z, hZ⟩ : ∃ Z, X - (qa * 4294967296 + qb) * y = Z := ⟨_, rfl⟩
  rw [hZ] at e1
  have e2 : R2 / P = Z := by rw [e1]; exact Int.mul_ediv_cancel _ (by omega)
  have z0 : 0 ≤ Z := by rw [← e2]; exact Int.ediv_nonneg hR0 (by omega)
  have z1 : Z < y := by
    rw [e1, hY] at hR1
    exact Int.lt_of_mul_lt_mul_right hR1 (by omega)
  have := quot_unique (D := y) (N := X) (q := qa * 4294967296 + qb) hy (by omega) (by rw [Int.add_mul (qa * 4294967296 + qb) 1 y]; omega)
  rw [e2]
  exact ⟨this.1.symm, by rw [← this.2]; exact hZ⟩
theorem ret_uu {a b c d : Int} (h1 : a = b) (h2 : c = d) : Ending.returned (.tuple #[.int .u64 a, .int .u64 c]) = .returned (.tuple #[.int .u64 b, .int .u64 d]) := by rw [h1, h2]

set_option maxRecDepth 100000 in
set_option maxHeartbeats 8000000 in
theorem div64_pos (hi lo y : Int) (w : World) (h0 : 0 < hi) (h1 : hi < y) (h2 : y < 18446744073709551616) (h3 : 0 ≤ lo) (h4 : lo < 18446744073709551616) :
    Calls Tryd.prog 102 #[.int .u64 hi, .int .u64 lo, .int .u64 y] w fun e w' => e = .returned (.tuple #[.int .u64 ((hi * 18446744073709551616 + lo) / y), .int .u64 ((hi * 18446744073709551616 + lo) % y)]) ∧ w' = w := by
  obtain ⟨B, P, Y, u, un10, hB, hB64, hP, hP0, hwY, hY, hY1, hY2, hor, hwl, hu0, hu1, hl0, hl1, heq⟩ := div_setup hi lo y (by omega) h1 h2 h3 h4
  have hcon := leading_any y w (by omega) (by omega)
  rw [hB] at hcon
  have hy0 : (y == 0) = false := by simp; omega
  have hh0 : (hi == 0) = false := by simp; omega
  have hyh : ¬ y ≤ hi := by omega
  obtain ⟨b1, hb1⟩ : ∃ b1, Y / 4294967296 = b1 := ⟨_, rfl⟩
  obtain ⟨b0, hb0⟩ : ∃ b0, Y % 4294967296 = b0 := ⟨_, rfl⟩
  obtain ⟨v1, hv1⟩ : ∃ v1, un10 / 4294967296 = v1 := ⟨_, rfl⟩
  obtain ⟨v0, hv0⟩ : ∃ v0, un10 % 4294967296 = v0 := ⟨_, rfl⟩
  have hYb : Y = b1 * 4294967296 + b0 := by omega
  have hmY : bits .and .u64 Y 4294967295 = b0 := by rw [mask32 Y (by omega) hY2, hb0]
  have hml : bits .and .u64 un10 4294967295 = v0 := by rw [mask32 un10 hl0 hl1, hv0]
  have c1 : 2147483648 ≤ b1 := by omega
  have c2 : b1 < 4294967296 := by omega
  have c3 : 0 ≤ b0 ∧ b0 < 4294967296 := by omega
  have c4 : 0 ≤ v1 ∧ v1 < 4294967296 := by omega
  have c5 : 0 ≤ v0 ∧ v0 < 4294967296 := by omega
  have hst := DSt.start c1 c2 c3.1 c3.2 hu0 (hYb ▸ hu1) c4.1 c4.2
  obtain ⟨m, hm⟩ : ∃ m, u / b1 * b1 = m := ⟨_, rfl⟩
  have hra : u % b1 = u - m := by
    have := Int.mul_ediv_add_emod u b1
    rw [Int.mul_comm, hm] at this; omega
  rw [hra] at hst
  have d1 : 0 ≤ u - m := hst.r0
  have d2 : 0 ≤ m := by rw [← hm]; exact Int.mul_nonneg hst.q0 (by omega)
  have d3 := hst.q0
  have d4 := hst.q1
  have HF : Hid ((Y = y * P ∧ P = 2 ^ B ∧ 0 < P) ∧ Y = b1 * 4294967296 + b0 ∧ (hi * 18446744073709551616 + lo) * P = u * 18446744073709551616 + un10 ∧ un10 = v1 * 4294967296 + v0) := ⟨⟨hY, hP, hP0⟩, hYb, heq, by omega⟩
  have HS : Hid (DSt b1 b0 u v1 (u / b1) (u - m)) := hst
  have hb1p : ¬ b1 = 0 := by omega
  clear hst hYb heq hY hP hra hB hb0 hv0
  obtain ⟨c31, c32⟩ := c3
  obtain ⟨c41, c42⟩ := c4
  obtain ⟨c51, c52⟩ := c5
  have hu64 : u < 18446744073709551616 := by omega
  go_enter Tryd.func102, Tryd.ntmps102
  go_wp2_with (go_at_call 103; refine hcon.mono ?_; rintro e w' ⟨rfl, rfl⟩)
  clear hwY hor hwl hb1 hmY hv1 hml hm hcon
  go_loop [15, 16] (fun a b => ∃ q r : Int, a = .int .u64 q ∧ b = .int .u64 r ∧ DSt b1 b0 u v1 q r) (fun a _ => (intOf a).toNat)
  case atStart => exact ⟨_, _, rfl, rfl, HS.out⟩
  case round =>
    obtain ⟨qa, ra, rfl, rfl, hst⟩ := hrel
    clear d1 d2 d3 d4 HS
    have HV : Hid (0 ≤ v1) := c41
    have HS : Hid (DSt b1 b0 u v1 qa ra) := hst
    have d1 := hst.r0
    have d2 := hst.r1
    have d3 := hst.q0
    have d4 := hst.q1
    clear hst
    by_cases hq : 4294967296 ≤ qa
    · have HL : Hid ((qa - 1) * b1 + (ra + b1) = u ∧ 0 ≤ qa - 1 ∧ u * 4294967296 + v1 < (qa - 1 + 1) * (b1 * 4294967296 + b0) ∧ qa - 1 ≤ 4294967296) := HS.out.less c1 c31 (HF.out.2.1 ▸ hu1) c41 c42 (Or.inl hq)
      by_cases hr : 4294967296 ≤ ra + b1
      · have HD : Hid ((qa - 1) * Y ≤ u * 4294967296 + v1 ∧ u * 4294967296 + v1 < (qa - 1 + 1) * Y) := brk_done HF.out.2.1 HL.out c31 c32 HV.out hr
        clear HL HS
        have fq1 : 0 ≤ qa - 1 := by omega
        obtain ⟨R1, h21, f1, f2, f3, f4, f5⟩ := digit_rule HD.out.1 HD.out.2 hY1 hY2 hu1 c41 c42
        have HQ1 : Hid (u * 4294967296 + v1 - (qa - 1) * Y = R1) := f5
        have hst := DSt.start c1 c2 c31 c32 f1 (HF.out.2.1 ▸ f2) c51 c52
        obtain ⟨m, hm⟩ : ∃ m, R1 / b1 * b1 = m := ⟨_, rfl⟩
        have hra : R1 % b1 = R1 - m := by
          have := Int.mul_ediv_add_emod R1 b1
          rw [Int.mul_comm, hm] at this; omega
        rw [hra] at hst
        have d1' : 0 ≤ R1 - m := hst.r0
        have d2' : 0 ≤ m := by rw [← hm]; exact Int.mul_nonneg hst.q0 (by omega)
        have d3' := hst.q0
        have d4' := hst.q1
        have HS2 : Hid (DSt b1 b0 R1 v0 (R1 / b1) (R1 - m)) := hst
        have f6 : R1 < 18446744073709551616 := by omega
        clear hst hra f5 HD HV
        go_wp2
        clear h21 hm
        go_loop [18, 16] (fun a b => ∃ q r : Int, a = .int .u64 q ∧ b = .int .u64 r ∧ DSt b1 b0 R1 v0 q r) (fun a _ => (intOf a).toNat)
        case atStart => exact ⟨_, _, rfl, rfl, HS2.out⟩
        case round =>
          obtain ⟨qb, rb, rfl, rfl, hst⟩ := hrel
          clear d1' d2' d3' d4' HS2
          have HV : Hid (0 ≤ v0) := c51
          have HS : Hid (DSt b1 b0 R1 v0 qb rb) := hst
          have d1 := hst.r0
          have d2 := hst.r1
          have d3 := hst.q0
          have d4 := hst.q1
          clear hst
          by_cases hq : 4294967296 ≤ qb
          · have HL : Hid ((qb - 1) * b1 + (rb + b1) = R1 ∧ 0 ≤ qb - 1 ∧ R1 * 4294967296 + v0 < (qb - 1 + 1) * (b1 * 4294967296 + b0) ∧ qb - 1 ≤ 4294967296) := HS.out.less c1 c31 (HF.out.2.1 ▸ f2) c51 c52 (Or.inl hq)
            by_cases hr : 4294967296 ≤ rb + b1
            · have HD : Hid ((qb - 1) * Y ≤ R1 * 4294967296 + v0 ∧ R1 * 4294967296 + v0 < (qb - 1 + 1) * Y) := brk_done HF.out.2.1 HL.out c31 c32 HV.out hr
              clear HL HS
              have fq2 : 0 ≤ qb - 1 := by omega
              obtain ⟨R2, h22, g1, g2, g3, _, g5⟩ := digit_rule HD.out.1 HD.out.2 hY1 hY2 f2 c51 c52
              have HE := div_finish HF.out.1.1 HF.out.1.2.2 (by omega) HF.out.2.2.1 HF.out.2.2.2 HQ1.out g5 g1 g2
              rw [HF.out.1.2.1] at HE
              have HEE : Hid _ := HE
              clear HE HD HV g5
              go_wp2
              go_ret2
              exact ⟨ret_uu HEE.out.1.symm HEE.out.2.symm, rfl⟩
            · go_wp2
              go_round
              case rel => exact ⟨qb - 1, rb + b1, rfl, rfl, HL.out.1, by omega, by omega, HL.out.2.1, by have := HL.out.2.2.2; omega, HL.out.2.2.1⟩
              case measure => simp [intOf]; omega
          · obtain ⟨m2, hm2⟩ : ∃ m2, qb * b0 = m2 := ⟨_, rfl⟩
            have e0 : 0 ≤ m2 := by rw [← hm2]; exact Int.mul_nonneg d3 c31
            have e1 : m2 ≤ 4294967295 * 4294967295 := by rw [← hm2]; exact Int.mul_le_mul (by omega) (by omega) c31 (by decide)
            by_cases hc : 4294967296 * rb + v0 < m2
            · have HL : Hid ((qb - 1) * b1 + (rb + b1) = R1 ∧ 0 ≤ qb - 1 ∧ R1 * 4294967296 + v0 < (qb - 1 + 1) * (b1 * 4294967296 + b0) ∧ qb - 1 ≤ 4294967296) := HS.out.less c1 c31 (HF.out.2.1 ▸ f2) c51 c52 (Or.inr (by rw [hm2]; exact hc))
              have hq1 : 1 ≤ qb := by have := HL.out.2.1; omega
              by_cases hr : 4294967296 ≤ rb + b1
              · have HD : Hid ((qb - 1) * Y ≤ R1 * 4294967296 + v0 ∧ R1 * 4294967296 + v0 < (qb - 1 + 1) * Y) := brk_done HF.out.2.1 HL.out c31 c32 HV.out hr
                clear HL HS
                have fq2 : 0 ≤ qb - 1 := by omega
                obtain ⟨R2, h22, g1, g2, g3, _, g5⟩ := digit_rule HD.out.1 HD.out.2 hY1 hY2 f2 c51 c52
                have HE := div_finish HF.out.1.1 HF.out.1.2.2 (by omega) HF.out.2.2.1 HF.out.2.2.2 HQ1.out g5 g1 g2
                rw [HF.out.1.2.1] at HE
                have HEE : Hid _ := HE
                clear HE HD HV g5
                go_wp2
                go_ret2
                exact ⟨ret_uu HEE.out.1.symm HEE.out.2.symm, rfl⟩
              · go_wp2
                go_round
                case rel => exact ⟨qb - 1, rb + b1, rfl, rfl, HL.out.1, by omega, by omega, HL.out.2.1, by have := HL.out.2.2.2; omega, HL.out.2.2.1⟩
                case measure => simp [intOf]; omega
            · have HD : Hid (qb * Y ≤ R1 * 4294967296 + v0 ∧ R1 * 4294967296 + v0 < (qb + 1) * Y) := ⟨by rw [HF.out.2.1]; exact HS.out.done (by rw [hm2]; omega), by rw [HF.out.2.1]; exact HS.out.up⟩
              clear HS
              have fq2 : 0 ≤ qb := by omega
              obtain ⟨R2, h22, g1, g2, g3, _, g5⟩ := digit_rule HD.out.1 HD.out.2 hY1 hY2 f2 c51 c52
              have HE := div_finish HF.out.1.1 HF.out.1.2.2 (by omega) HF.out.2.2.1 HF.out.2.2.2 HQ1.out g5 g1 g2
              rw [HF.out.1.2.1] at HE
              have HEE : Hid _ := HE
              clear HE HD HV g5
              go_wp2
              go_ret2
              exact ⟨ret_uu HEE.out.1.symm HEE.out.2.symm, rfl⟩
      · go_wp2
        go_round
        case rel => exact ⟨qa - 1, ra + b1, rfl, rfl, HL.out.1, by omega, by omega, HL.out.2.1, by have := HL.out.2.2.2; omega, HL.out.2.2.1⟩
        case measure => simp [intOf]; omega
    · obtain ⟨m2, hm2⟩ : ∃ m2, qa * b0 = m2 := ⟨_, rfl⟩
      have e0 : 0 ≤ m2 := by rw [← hm2]; exact Int.mul_nonneg d3 c31
      have e1 : m2 ≤ 4294967295 * 4294967295 := by rw [← hm2]; exact Int.mul_le_mul (by omega) (by omega) c31 (by decide)
      by_cases hc : 4294967296 * ra + v1 < m2
      · have HL : Hid ((qa - 1) * b1 + (ra + b1) = u ∧ 0 ≤ qa - 1 ∧ u * 4294967296 + v1 < (qa - 1 + 1) * (b1 * 4294967296 + b0) ∧ qa - 1 ≤ 4294967296) := HS.out.less c1 c31 (HF.out.2.1 ▸ hu1) c41 c42 (Or.inr (by rw [hm2]; exact hc))
        have hq1 : 1 ≤ qa := by have := HL.out.2.1; omega
        by_cases hr : 4294967296 ≤ ra + b1
        · have HD : Hid ((qa - 1) * Y ≤ u * 4294967296 + v1 ∧ u * 4294967296 + v1 < (qa - 1 + 1) * Y) := brk_done HF.out.2.1 HL.out c31 c32 HV.out hr
          clear HL HS
          have fq1 : 0 ≤ qa - 1 := by omega
          obtain ⟨R1, h21, f1, f2, f3, f4, f5⟩ := digit_rule HD.out.1 HD.out.2 hY1 hY2 hu1 c41 c42
          have HQ1 : Hid (u * 4294967296 + v1 - (qa - 1) * Y = R1) := f5
          have hst := DSt.start c1 c2 c31 c32 f1 (HF.out.2.1 ▸ f2) c51 c52
          obtain ⟨m, hm⟩ : ∃ m, R1 / b1 * b1 = m := ⟨_, rfl⟩
          have hra : R1 % b1 = R1 - m := by
            have := Int.mul_ediv_add_emod R1 b1
            rw [Int.mul_comm, hm] at this; omega
          rw [hra] at hst
          have d1' : 0 ≤ R1 - m := hst.r0
          have d2' : 0 ≤ m := by rw [← hm]; exact Int.mul_nonneg hst.q0 (by omega)
          have d3' := hst.q0
          have d4' := hst.q1
          have HS2 : Hid (DSt b1 b0 R1 v0 (R1 / b1) (R1 - m)) := hst
          have f6 : R1 < 18446744073709551616 := by omega
          clear hst hra f5 HD HV
          go_wp2
          clear h21 hm
          go_loop [18, 16] (fun a b => ∃ q r : Int, a = .int .u64 q ∧ b = .int .u64 r ∧ DSt b1 b0 R1 v0 q r) (fun a _ => (intOf a).toNat)
          case atStart => exact ⟨_, _, rfl, rfl, HS2.out⟩
          case round =>
            obtain ⟨qb, rb, rfl, rfl, hst⟩ := hrel
            clear d1' d2' d3' d4' HS2
            have HV : Hid (0 ≤ v0) := c51
            have HS : Hid (DSt b1 b0 R1 v0 qb rb) := hst
            have d1 := hst.r0
            have d2 := hst.r1
            have d3 := hst.q0
            have d4 := hst.q1
            clear hst
            by_cases hq : 4294967296 ≤ qb
            · have HL : Hid ((qb - 1) * b1 + (rb + b1) = R1 ∧ 0 ≤ qb - 1 ∧ R1 * 4294967296 + v0 < (qb - 1 + 1) * (b1 * 4294967296 + b0) ∧ qb - 1 ≤ 4294967296) := HS.out.less c1 c31 (HF.out.2.1 ▸ f2) c51 c52 (Or.inl hq)
              by_cases hr : 4294967296 ≤ rb + b1
              · have HD : Hid ((qb - 1) * Y ≤ R1 * 4294967296 + v0 ∧ R1 * 4294967296 + v0 < (qb - 1 + 1) * Y) := brk_done HF.out.2.1 HL.out c31 c32 HV.out hr
                clear HL HS
                have fq2 : 0 ≤ qb - 1 := by omega
                obtain ⟨R2, h22, g1, g2, g3, _, g5⟩ := digit_rule HD.out.1 HD.out.2 hY1 hY2 f2 c51 c52
                have HE := div_finish HF.out.1.1 HF.out.1.2.2 (by omega) HF.out.2.2.1 HF.out.2.2.2 HQ1.out g5 g1 g2
                rw [HF.out.1.2.1] at HE
                have HEE : Hid _ := HE
                clear HE HD HV g5
                go_wp2
                go_ret2
                exact ⟨ret_uu HEE.out.1.symm HEE.out.2.symm, rfl⟩
              · go_wp2
                go_round
                case rel => exact ⟨qb - 1, rb + b1, rfl, rfl, HL.out.1, by omega, by omega, HL.out.2.1, by have := HL.out.2.2.2; omega, HL.out.2.2.1⟩
                case measure => simp [intOf]; omega
            · obtain ⟨m2, hm2⟩ : ∃ m2, qb * b0 = m2 := ⟨_, rfl⟩
              have e0 : 0 ≤ m2 := by rw [← hm2]; exact Int.mul_nonneg d3 c31
              have e1 : m2 ≤ 4294967295 * 4294967295 := by rw [← hm2]; exact Int.mul_le_mul (by omega) (by omega) c31 (by decide)
              by_cases hc : 4294967296 * rb + v0 < m2
              · have HL : Hid ((qb - 1) * b1 + (rb + b1) = R1 ∧ 0 ≤ qb - 1 ∧ R1 * 4294967296 + v0 < (qb - 1 + 1) * (b1 * 4294967296 + b0) ∧ qb - 1 ≤ 4294967296) := HS.out.less c1 c31 (HF.out.2.1 ▸ f2) c51 c52 (Or.inr (by rw [hm2]; exact hc))
                have hq1 : 1 ≤ qb := by have := HL.out.2.1; omega
                by_cases hr : 4294967296 ≤ rb + b1
                · have HD : Hid ((qb - 1) * Y ≤ R1 * 4294967296 + v0 ∧ R1 * 4294967296 + v0 < (qb - 1 + 1) * Y) := brk_done HF.out.2.1 HL.out c31 c32 HV.out hr
                  clear HL HS
                  have fq2 : 0 ≤ qb - 1 := by omega
                  obtain ⟨R2, h22, g1, g2, g3, _, g5⟩ := digit_rule HD.out.1 HD.out.2 hY1 hY2 f2 c51 c52
                  have HE := div_finish HF.out.1.1 HF.out.1.2.2 (by omega) HF.out.2.2.1 HF.out.2.2.2 HQ1.out g5 g1 g2
                  rw [HF.out.1.2.1] at HE
                  have HEE : Hid _ := HE
                  clear HE HD HV g5
                  go_wp2
                  go_ret2
                  exact ⟨ret_uu HEE.out.1.symm HEE.out.2.symm, rfl⟩
                · go_wp2
                  go_round
                  case rel => exact ⟨qb - 1, rb + b1, rfl, rfl, HL.out.1, by omega, by omega, HL.out.2.1, by have := HL.out.2.2.2; omega, HL.out.2.2.1⟩
                  case measure => simp [intOf]; omega
              · have HD : Hid (qb * Y ≤ R1 * 4294967296 + v0 ∧ R1 * 4294967296 + v0 < (qb + 1) * Y) := ⟨by rw [HF.out.2.1]; exact HS.out.done (by rw [hm2]; omega), by rw [HF.out.2.1]; exact HS.out.up⟩
                clear HS
                have fq2 : 0 ≤ qb := by omega
                obtain ⟨R2, h22, g1, g2, g3, _, g5⟩ := digit_rule HD.out.1 HD.out.2 hY1 hY2 f2 c51 c52
                have HE := div_finish HF.out.1.1 HF.out.1.2.2 (by omega) HF.out.2.2.1 HF.out.2.2.2 HQ1.out g5 g1 g2
                rw [HF.out.1.2.1] at HE
                have HEE : Hid _ := HE
                clear HE HD HV g5
                go_wp2
                go_ret2
                exact ⟨ret_uu HEE.out.1.symm HEE.out.2.symm, rfl⟩
        · go_wp2
          go_round
          case rel => exact ⟨qa - 1, ra + b1, rfl, rfl, HL.out.1, by omega, by omega, HL.out.2.1, by have := HL.out.2.2.2; omega, HL.out.2.2.1⟩
          case measure => simp [intOf]; omega
      · have HD : Hid (qa * Y ≤ u * 4294967296 + v1 ∧ u * 4294967296 + v1 < (qa + 1) * Y) := ⟨by rw [HF.out.2.1]; exact HS.out.done (by rw [hm2]; omega), by rw [HF.out.2.1]; exact HS.out.up⟩
        clear HS
        have fq1 : 0 ≤ qa := by omega
        obtain ⟨R1, h21, f1, f2, f3, f4, f5⟩ := digit_rule HD.out.1 HD.out.2 hY1 hY2 hu1 c41 c42
        have HQ1 : Hid (u * 4294967296 + v1 - (qa) * Y = R1) := f5
        have hst := DSt.start c1 c2 c31 c32 f1 (HF.out.2.1 ▸ f2) c51 c52
        obtain ⟨m, hm⟩ : ∃ m, R1 / b1 * b1 = m := ⟨_, rfl⟩
        have hra : R1 % b1 = R1 - m := by
          have := Int.mul_ediv_add_emod R1 b1
          rw [Int.mul_comm, hm] at this; omega
        rw [hra] at hst
        have d1' : 0 ≤ R1 - m := hst.r0
        have d2' : 0 ≤ m := by rw [← hm]; exact Int.mul_nonneg hst.q0 (by omega)
        have d3' := hst.q0
        have d4' := hst.q1
        have HS2 : Hid (DSt b1 b0 R1 v0 (R1 / b1) (R1 - m)) := hst
        have f6 : R1 < 18446744073709551616 := by omega
        clear hst hra f5 HD HV
        go_wp2
        clear h21 hm
        go_loop [18, 16] (fun a b => ∃ q r : Int, a = .int .u64 q ∧ b = .int .u64 r ∧ DSt b1 b0 R1 v0 q r) (fun a _ => (intOf a).toNat)
        case atStart => exact ⟨_, _, rfl, rfl, HS2.out⟩
        case round =>
          obtain ⟨qb, rb, rfl, rfl, hst⟩ := hrel
          clear d1' d2' d3' d4' HS2
          have HV : Hid (0 ≤ v0) := c51
          have HS : Hid (DSt b1 b0 R1 v0 qb rb) := hst
          have d1 := hst.r0
          have d2 := hst.r1
          have d3 := hst.q0
          have d4 := hst.q1
          clear hst
          by_cases hq : 4294967296 ≤ qb
          · have HL : Hid ((qb - 1) * b1 + (rb + b1) = R1 ∧ 0 ≤ qb - 1 ∧ R1 * 4294967296 + v0 < (qb - 1 + 1) * (b1 * 4294967296 + b0) ∧ qb - 1 ≤ 4294967296) := HS.out.less c1 c31 (HF.out.2.1 ▸ f2) c51 c52 (Or.inl hq)
            by_cases hr : 4294967296 ≤ rb + b1
            · have HD : Hid ((qb - 1) * Y ≤ R1 * 4294967296 + v0 ∧ R1 * 4294967296 + v0 < (qb - 1 + 1) * Y) := brk_done HF.out.2.1 HL.out c31 c32 HV.out hr
              clear HL HS
              have fq2 : 0 ≤ qb - 1 := by omega
              obtain ⟨R2, h22, g1, g2, g3, _, g5⟩ := digit_rule HD.out.1 HD.out.2 hY1 hY2 f2 c51 c52
              have HE := div_finish HF.out.1.1 HF.out.1.2.2 (by omega) HF.out.2.2.1 HF.out.2.2.2 HQ1.out g5 g1 g2
              rw [HF.out.1.2.1] at HE
              have HEE : Hid _ := HE
              clear HE HD HV g5
              go_wp2
              go_ret2
              exact ⟨ret_uu HEE.out.1.symm HEE.out.2.symm, rfl⟩
            · go_wp2
              go_round
              case rel => exact ⟨qb - 1, rb + b1, rfl, rfl, HL.out.1, by omega, by omega, HL.out.2.1, by have := HL.out.2.2.2; omega, HL.out.2.2.1⟩
              case measure => simp [intOf]; omega
          · obtain ⟨m2, hm2⟩ : ∃ m2, qb * b0 = m2 := ⟨_, rfl⟩
            have e0 : 0 ≤ m2 := by rw [← hm2]; exact Int.mul_nonneg d3 c31
            have e1 : m2 ≤ 4294967295 * 4294967295 := by rw [← hm2]; exact Int.mul_le_mul (by omega) (by omega) c31 (by decide)
            by_cases hc : 4294967296 * rb + v0 < m2
            · have HL : Hid ((qb - 1) * b1 + (rb + b1) = R1 ∧ 0 ≤ qb - 1 ∧ R1 * 4294967296 + v0 < (qb - 1 + 1) * (b1 * 4294967296 + b0) ∧ qb - 1 ≤ 4294967296) := HS.out.less c1 c31 (HF.out.2.1 ▸ f2) c51 c52 (Or.inr (by rw [hm2]; exact hc))
              have hq1 : 1 ≤ qb := by have := HL.out.2.1; omega
              by_cases hr : 4294967296 ≤ rb + b1
              · have HD : Hid ((qb - 1) * Y ≤ R1 * 4294967296 + v0 ∧ R1 * 4294967296 + v0 < (qb - 1 + 1) * Y) := brk_done HF.out.2.1 HL.out c31 c32 HV.out hr
                clear HL HS
                have fq2 : 0 ≤ qb - 1 := by omega
                obtain ⟨R2, h22, g1, g2, g3, _, g5⟩ := digit_rule HD.out.1 HD.out.2 hY1 hY2 f2 c51 c52
                have HE := div_finish HF.out.1.1 HF.out.1.2.2 (by omega) HF.out.2.2.1 HF.out.2.2.2 HQ1.out g5 g1 g2
                rw [HF.out.1.2.1] at HE
                have HEE : Hid _ := HE
                clear HE HD HV g5
                go_wp2
                go_ret2
                exact ⟨ret_uu HEE.out.1.symm HEE.out.2.symm, rfl⟩
              · go_wp2
                go_round
                case rel => exact ⟨qb - 1, rb + b1, rfl, rfl, HL.out.1, by omega, by omega, HL.out.2.1, by have := HL.out.2.2.2; omega, HL.out.2.2.1⟩
                case measure => simp [intOf]; omega
            · have HD : Hid (qb * Y ≤ R1 * 4294967296 + v0 ∧ R1 * 4294967296 + v0 < (qb + 1) * Y) := ⟨by rw [HF.out.2.1]; exact HS.out.done (by rw [hm2]; omega), by rw [HF.out.2.1]; exact HS.out.up⟩
              clear HS
              have fq2 : 0 ≤ qb := by omega
              obtain ⟨R2, h22, g1, g2, g3, _, g5⟩ := digit_rule HD.out.1 HD.out.2 hY1 hY2 f2 c51 c52
              have HE := div_finish HF.out.1.1 HF.out.1.2.2 (by omega) HF.out.2.2.1 HF.out.2.2.2 HQ1.out g5 g1 g2
              rw [HF.out.1.2.1] at HE
              have HEE : Hid _ := HE
              clear HE HD HV g5
              go_wp2
              go_ret2
              exact ⟨ret_uu HEE.out.1.symm HEE.out.2.symm, rfl⟩

end Go.Proofs.YtafohkcbonlgkaaDoor
