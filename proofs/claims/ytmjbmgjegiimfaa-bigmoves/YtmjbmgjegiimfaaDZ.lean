/-
  Walks: guessLimb.
-/
import Derived.Test.YtmjbmgjegiimfaaDY
namespace Go.Proofs.Ytmjbmgjegiimfaa
open Go.RowKit
set_option linter.unusedVariables false
set_option linter.unusedSimpArgs false

/-- g is the quotient's limb by the upper limbs, at most the greatest one -/
def IsGuess (u2 u1 u0 v1 v0 g : Int) : Prop := 0 ≤ g ∧ g < 18446744073709551616 ∧ g * (v1 * 18446744073709551616 + v0) ≤ (u2 * 18446744073709551616 + u1) * 18446744073709551616 + u0 ∧ ((u2 * 18446744073709551616 + u1) * 18446744073709551616 + u0 < (g + 1) * (v1 * 18446744073709551616 + v0) ∨ g = 18446744073709551615)
structure GSt (u2 u1 u0 v1 v0 g r : Int) : Prop where
  eq : g * v1 + r = u2 * 18446744073709551616 + u1
  r0 : 0 ≤ r
  r1 : r < 18446744073709551616
  g0 : 0 ≤ g
  g1 : g < 18446744073709551616
  up : (u2 * 18446744073709551616 + u1) * 18446744073709551616 + u0 < (g + 1) * (v1 * 18446744073709551616 + v0) ∨ g = 18446744073709551615
theorem GSt.done {u2 u1 u0 v1 v0 g r hi lo : Int} (h : GSt u2 u1 u0 v1 v0 g r) (hm : hi * 18446744073709551616 + lo = g * v0) (l0 : 0 ≤ lo) (l1 : lo < 18446744073709551616) (k0 : 0 ≤ u0) (k1 : u0 < 18446744073709551616) (ht : hi < r ∨ hi = r ∧ lo ≤ u0) : IsGuess u2 u1 u0 v1 v0 g := by
  refine ⟨h.g0, h.g1, ?_, h.up⟩
  have e : g * (v1 * 18446744073709551616 + v0) = (g * v1) * 18446744073709551616 + g * v0 := by grind
  have := h.eq
  rw [e, ← hm]; omega
theorem GSt.less {u2 u1 u0 v1 v0 g r hi lo : Int} (h : GSt u2 u1 u0 v1 v0 g r) (hm : hi * 18446744073709551616 + lo = g * v0) (l0 : 0 ≤ lo) (l1 : lo < 18446744073709551616) (k0 : 0 ≤ u0) (k1 : u0 < 18446744073709551616) (h1 : ¬ hi < r) (h2 : ¬ (hi = r ∧ lo ≤ u0)) :
    1 ≤ g ∧ (u2 * 18446744073709551616 + u1) * 18446744073709551616 + u0 < (g - 1 + 1) * (v1 * 18446744073709551616 + v0) ∧ (g - 1) * v1 + (r + v1) = u2 * 18446744073709551616 + u1 := by
  have e : g * (v1 * 18446744073709551616 + v0) = (g * v1) * 18446744073709551616 + g * v0 := by grind
  have h3 := h.eq
  have h4 : (u2 * 18446744073709551616 + u1) * 18446744073709551616 + u0 < g * (v1 * 18446744073709551616 + v0) := by rw [e, ← hm]; omega
  refine ⟨?_, by rw [Int.sub_add_cancel]; exact h4, by rw [Int.sub_mul]; omega⟩
  by_cases hg : g = 0
  · subst hg
    rw [Int.zero_mul] at h3 hm
    have := h.r0
    omega
  · have := h.g0; omega
theorem GSt.next {u2 u1 u0 v1 v0 g r d : Int} (h : GSt u2 u1 u0 v1 v0 g r) (hl : 1 ≤ g ∧ (u2 * 18446744073709551616 + u1) * 18446744073709551616 + u0 < (g - 1 + 1) * (v1 * 18446744073709551616 + v0) ∧ (g - 1) * v1 + (r + v1) = u2 * 18446744073709551616 + u1) (hd : d = r + v1) (hb : 0 ≤ d ∧ d < 18446744073709551616) : GSt u2 u1 u0 v1 v0 (g - 1) d := by
  have := h.g1
  exact ⟨by rw [hd]; exact hl.2.2, hb.1, hb.2, by omega, by omega, Or.inl hl.2.1⟩
theorem GSt.over {u2 u1 u0 v1 v0 g r : Int} (h : GSt u2 u1 u0 v1 v0 g r) (hl : 1 ≤ g ∧ (u2 * 18446744073709551616 + u1) * 18446744073709551616 + u0 < (g - 1 + 1) * (v1 * 18446744073709551616 + v0) ∧ (g - 1) * v1 + (r + v1) = u2 * 18446744073709551616 + u1) (ho : 18446744073709551616 ≤ r + v1) (k0 : 0 ≤ u0) (k1 : 0 ≤ v0) (k2 : v0 < 18446744073709551616) : IsGuess u2 u1 u0 v1 v0 (g - 1) := by
  have h1 := h.g1
  refine ⟨by omega, by omega, ?_, Or.inl hl.2.1⟩
  have e : (g - 1) * (v1 * 18446744073709551616 + v0) = ((g - 1) * v1) * 18446744073709551616 + (g - 1) * v0 := by grind
  have e2 : (g - 1) * v0 ≤ 18446744073709551615 * 18446744073709551615 := Int.mul_le_mul (by omega) (by omega) k1 (by decide)
  have e3 := hl.2.2
  rw [e]; omega
theorem GSt.first {u2 u1 u0 v1 v0 d r : Int} (he : d * v1 + r = u2 * 18446744073709551616 + u1) (hd : 0 ≤ d ∧ d < 18446744073709551616) (hr : 0 ≤ r ∧ r < v1) (hv : v1 < 18446744073709551616) (k0 : u0 < 18446744073709551616) (k1 : 0 ≤ v0) : GSt u2 u1 u0 v1 v0 d r := by
  refine ⟨he, hr.1, by omega, hd.1, hd.2, Or.inl ?_⟩
  have e : (d + 1) * (v1 * 18446744073709551616 + v0) = (d * v1 + v1) * 18446744073709551616 + (d + 1) * v0 := by grind
  have e2 : 0 ≤ (d + 1) * v0 := Int.mul_nonneg (by omega) k1
  rw [e]; omega
theorem IsGuess.top {u1 u0 v1 v0 : Int} (ho : 18446744073709551616 ≤ u1 + v1) (k0 : 0 ≤ u0) (k1 : 0 ≤ v0) (k2 : v0 < 18446744073709551616) : IsGuess v1 u1 u0 v1 v0 18446744073709551615 := by
  refine ⟨by decide, by decide, ?_, Or.inr rfl⟩
  omega
theorem GSt.second {u1 u0 v1 v0 r : Int} (hr : r = u1 + v1) (h0 : 0 ≤ r) (h1 : r < 18446744073709551616) : GSt v1 u1 u0 v1 v0 18446744073709551615 r :=
  ⟨by omega, h0, h1, by decide, by decide, Or.inr rfl⟩
/-- there is one such limb -/
theorem IsGuess.one {u2 u1 u0 v1 v0 g g' : Int} (hv : 0 < v1) (hv0 : 0 ≤ v0) (h : IsGuess u2 u1 u0 v1 v0 g) (h' : IsGuess u2 u1 u0 v1 v0 g') : g = g' := by
  obtain ⟨a1, a2, a3, a4⟩ := h
  obtain ⟨b1, b2, b3, b4⟩ := h'
  have hD : 0 < v1 * 18446744073709551616 + v0 := by omega
  obtain ⟨D, hDe⟩ : ∃ D, v1 * 18446744073709551616 + v0 = D := ⟨_, rfl⟩
  obtain ⟨U, hU⟩ : ∃ U, (u2 * 18446744073709551616 + u1) * 18446744073709551616 + u0 = U := ⟨_, rfl⟩
  rw [hDe] at hD a3 a4 b3 b4; rw [hU] at a3 a4 b3 b4
  have c1 : g ≤ g' := by
    rcases b4 with h | h
    · have : g * D < (g' + 1) * D := Int.lt_of_le_of_lt a3 h
      have := Int.lt_of_mul_lt_mul_right this (by omega)
      omega
    · omega
  have c2 : g' ≤ g := by
    rcases a4 with h | h
    · have : g' * D < (g + 1) * D := Int.lt_of_le_of_lt b3 h
      have := Int.lt_of_mul_lt_mul_right this (by omega)
      omega
    · omega
  omega

set_option maxRecDepth 100000 in
set_option maxHeartbeats 4000000 in
theorem guess_any (u2 u1 u0 v1 v0 : Int) (w : World) (k1 : 0 ≤ u2) (k2 : u2 ≤ v1) (k3 : 0 ≤ u1) (k4 : u1 < 18446744073709551616) (k5 : 0 ≤ u0) (k6 : u0 < 18446744073709551616) (k7 : 0 ≤ v1) (k8 : v1 < 18446744073709551616) (k9 : 0 ≤ v0) (k10 : v0 < 18446744073709551616) (kv : 0 < v1) :
    Calls Try.prog 89 #[.int .u64 u2, .int .u64 u1, .int .u64 u0, .int .u64 v1, .int .u64 v0] w fun e w' => ∃ g, e = .returned (.int .u64 g) ∧ IsGuess u2 u1 u0 v1 v0 g ∧ ∃ n, w' = w.drewN n := by
  by_cases hlt : u2 < v1
  · obtain ⟨d0, r0, hdiv, hd0, hr0, he0⟩ := div64_ex u2 u1 v1 k1 hlt k8 k3 k4
    have HG : Hid (GSt u2 u1 u0 v1 v0 d0 r0) := GSt.first he0 hd0 hr0 k8 k6 k9
    clear he0 hd0 hr0
    go_enter Try.func89, Try.ntmps89
    go_wp2_with (go_at_call 87; refine (hdiv _).mono ?_; rintro e w' ⟨rfl, nd, rfl⟩)
    go_loop [11, 12] (fun a b => ∃ x r : Int, a = .int .u64 x ∧ b = .int .u64 r ∧ GSt u2 u1 u0 v1 v0 x r) (fun a _ => (intOf a).toNat)
    case atStart => exact ⟨d0, r0, rfl, rfl, HG.out⟩
    case round =>
      obtain ⟨x, r, rfl, rfl, hs⟩ := hrel
      have HS : Hid (GSt u2 u1 u0 v1 v0 x r) := hs
      obtain ⟨hi, lo, hmul, hhi, hlo, hml⟩ := mul64_ex x v0 ⟨hs.g0, hs.g1⟩ ⟨k9, k10⟩
      obtain ⟨d, c, hrun, hd, hc, he⟩ := add64_ex r v1 0 ⟨hs.r0, hs.r1⟩ ⟨k7, k8⟩ (by decide) (by decide)
      have HM : Hid (hi * 18446744073709551616 + lo = x * v0 ∧ (0 ≤ lo ∧ lo < 18446744073709551616)) := ⟨hml, hlo⟩
      have b1 := hs.g0
      have b2 := hs.g1
      clear hml hs hlo hhi
      by_cases h1 : hi < r
      · have HG := HS.out.done HM.out.1 HM.out.2.1 HM.out.2.2 k5 k6 (Or.inl h1)
        have HG2 : Hid (IsGuess u2 u1 u0 v1 v0 x) := HG
        clear HG he
        go_wp2_with (go_at_call 80; refine (hmul _).mono ?_; rintro e w' ⟨rfl, rfl⟩)
        go_ret
        exact ⟨_, rfl, HG2.out, nd, rfl⟩
      · by_cases h2 : hi = r ∧ lo ≤ u0
        · obtain ⟨rfl, h3⟩ := h2
          have HG2 : Hid (IsGuess u2 u1 u0 v1 v0 x) := HS.out.done HM.out.1 HM.out.2.1 HM.out.2.2 k5 k6 (Or.inr ⟨rfl, h3⟩)
          have h4 : (hi == hi) = true := by simp
          clear he
          go_wp2_with (go_at_call 80; refine (hmul _).mono ?_; rintro e w' ⟨rfl, rfl⟩)
          go_ret
          exact ⟨_, rfl, HG2.out, nd, rfl⟩
        · have HL := HS.out.less HM.out.1 HM.out.2.1 HM.out.2.2 k5 k6 h1 h2
          have b3 : 1 ≤ x := HL.1
          have HE : Hid (d + 1 * (c * 18446744073709551616) = r + 1 * (v1 + 0) ∧ (0 ≤ d ∧ d < 18446744073709551616)) := ⟨he, hd⟩
          clear he hd
          rcases (show c = 0 ∨ c = 1 by omega) with rfl | rfl
          · have HN : Hid (GSt u2 u1 u0 v1 v0 (x - 1) d) := HS.out.next HL (by have := HE.out.1; omega) HE.out.2
            clear HL hc
            by_cases h3 : hi = r
            · subst h3
              have h4 : ¬ lo ≤ u0 := fun h => h2 ⟨rfl, h⟩
              have h5 : (hi == hi) = true := by simp
              clear h2
              go_wp2_with (first | simp only [hrun] | (go_at_call 80; refine (hmul _).mono ?_; rintro e w' ⟨rfl, rfl⟩))
              go_round
              case rel => exact ⟨x - 1, d, by go_num, by go_num, HN.out⟩
              case measure => simp [intOf]; omega
            · have h5 : (hi == r) = false := by simpa using h3
              clear h2
              go_wp2_with (first | simp only [hrun] | (go_at_call 80; refine (hmul _).mono ?_; rintro e w' ⟨rfl, rfl⟩))
              go_round
              case rel => exact ⟨x - 1, d, by go_num, by go_num, HN.out⟩
              case measure => simp [intOf]; omega
          · have HN : Hid (IsGuess u2 u1 u0 v1 v0 (x - 1)) := HS.out.over HL (by have := HE.out.1; have := HE.out.2; omega) k5 k9 k10
            clear HL hc
            by_cases h3 : hi = r
            · subst h3
              have h4 : ¬ lo ≤ u0 := fun h => h2 ⟨rfl, h⟩
              have h5 : (hi == hi) = true := by simp
              clear h2
              go_wp2_with (first | simp only [hrun] | (go_at_call 80; refine (hmul _).mono ?_; rintro e w' ⟨rfl, rfl⟩))
              go_ret
              exact ⟨_, rfl, HN.out, nd, rfl⟩
            · have h5 : (hi == r) = false := by simpa using h3
              clear h2
              go_wp2_with (first | simp only [hrun] | (go_at_call 80; refine (hmul _).mono ?_; rintro e w' ⟨rfl, rfl⟩))
              go_ret
              exact ⟨_, rfl, HN.out, nd, rfl⟩

  · obtain rfl : u2 = v1 := by omega
    obtain ⟨d1, c1, hrun1, hd1, hc1, he1⟩ := add64_ex u1 u2 0 ⟨k3, k4⟩ ⟨k7, k8⟩ (by decide) (by decide)
    rcases (show c1 = 0 ∨ c1 = 1 by omega) with rfl | rfl
    · have HG : Hid (GSt u2 u1 u0 u2 v0 18446744073709551615 d1) := GSt.second (by omega) hd1.1 hd1.2
      clear he1 hd1 hc1
      go_enter Try.func89, Try.ntmps89
      go_wp2_with (simp only [hrun1])
      go_loop [11, 12] (fun a b => ∃ x r : Int, a = .int .u64 x ∧ b = .int .u64 r ∧ GSt u2 u1 u0 u2 v0 x r) (fun a _ => (intOf a).toNat)
      case atStart => exact ⟨18446744073709551615, d1, rfl, rfl, HG.out⟩
      case round =>
        obtain ⟨x, r, rfl, rfl, hs⟩ := hrel
        have HS : Hid (GSt u2 u1 u0 u2 v0 x r) := hs
        obtain ⟨hi, lo, hmul, hhi, hlo, hml⟩ := mul64_ex x v0 ⟨hs.g0, hs.g1⟩ ⟨k9, k10⟩
        obtain ⟨d, c, hrun, hd, hc, he⟩ := add64_ex r u2 0 ⟨hs.r0, hs.r1⟩ ⟨k7, k8⟩ (by decide) (by decide)
        have HM : Hid (hi * 18446744073709551616 + lo = x * v0 ∧ (0 ≤ lo ∧ lo < 18446744073709551616)) := ⟨hml, hlo⟩
        have b1 := hs.g0
        have b2 := hs.g1
        clear hml hs hlo hhi
        by_cases h1 : hi < r
        · have HG := HS.out.done HM.out.1 HM.out.2.1 HM.out.2.2 k5 k6 (Or.inl h1)
          have HG2 : Hid (IsGuess u2 u1 u0 u2 v0 x) := HG
          clear HG he
          go_wp2_with (go_at_call 80; refine (hmul _).mono ?_; rintro e w' ⟨rfl, rfl⟩)
          go_ret
          exact ⟨_, rfl, HG2.out, 0, rfl⟩
        · by_cases h2 : hi = r ∧ lo ≤ u0
          · obtain ⟨rfl, h3⟩ := h2
            have HG2 : Hid (IsGuess u2 u1 u0 u2 v0 x) := HS.out.done HM.out.1 HM.out.2.1 HM.out.2.2 k5 k6 (Or.inr ⟨rfl, h3⟩)
            have h4 : (hi == hi) = true := by simp
            clear he
            go_wp2_with (go_at_call 80; refine (hmul _).mono ?_; rintro e w' ⟨rfl, rfl⟩)
            go_ret
            exact ⟨_, rfl, HG2.out, 0, rfl⟩
          · have HL := HS.out.less HM.out.1 HM.out.2.1 HM.out.2.2 k5 k6 h1 h2
            have b3 : 1 ≤ x := HL.1
            have HE : Hid (d + 1 * (c * 18446744073709551616) = r + 1 * (u2 + 0) ∧ (0 ≤ d ∧ d < 18446744073709551616)) := ⟨he, hd⟩
            clear he hd
            rcases (show c = 0 ∨ c = 1 by omega) with rfl | rfl
            · have HN : Hid (GSt u2 u1 u0 u2 v0 (x - 1) d) := HS.out.next HL (by have := HE.out.1; omega) HE.out.2
              clear HL hc
              by_cases h3 : hi = r
              · subst h3
                have h4 : ¬ lo ≤ u0 := fun h => h2 ⟨rfl, h⟩
                have h5 : (hi == hi) = true := by simp
                clear h2
                go_wp2_with (first | simp only [hrun] | (go_at_call 80; refine (hmul _).mono ?_; rintro e w' ⟨rfl, rfl⟩))
                go_round
                case rel => exact ⟨x - 1, d, by go_num, by go_num, HN.out⟩
                case measure => simp [intOf]; omega
              · have h5 : (hi == r) = false := by simpa using h3
                clear h2
                go_wp2_with (first | simp only [hrun] | (go_at_call 80; refine (hmul _).mono ?_; rintro e w' ⟨rfl, rfl⟩))
                go_round
                case rel => exact ⟨x - 1, d, by go_num, by go_num, HN.out⟩
                case measure => simp [intOf]; omega
            · have HN : Hid (IsGuess u2 u1 u0 u2 v0 (x - 1)) := HS.out.over HL (by have := HE.out.1; have := HE.out.2; omega) k5 k9 k10
              clear HL hc
              by_cases h3 : hi = r
              · subst h3
                have h4 : ¬ lo ≤ u0 := fun h => h2 ⟨rfl, h⟩
                have h5 : (hi == hi) = true := by simp
                clear h2
                go_wp2_with (first | simp only [hrun] | (go_at_call 80; refine (hmul _).mono ?_; rintro e w' ⟨rfl, rfl⟩))
                go_ret
                exact ⟨_, rfl, HN.out, 0, rfl⟩
              · have h5 : (hi == r) = false := by simpa using h3
                clear h2
                go_wp2_with (first | simp only [hrun] | (go_at_call 80; refine (hmul _).mono ?_; rintro e w' ⟨rfl, rfl⟩))
                go_ret
                exact ⟨_, rfl, HN.out, 0, rfl⟩

    · have HG : Hid (IsGuess u2 u1 u0 u2 v0 18446744073709551615) := IsGuess.top (by omega) k5 k9 k10
      clear he1 hd1 hc1
      go_enter Try.func89, Try.ntmps89
      go_wp2_with (simp only [hrun1])
      go_ret
      exact ⟨_, rfl, HG.out, 0, rfl⟩

theorem guess_ex (u2 u1 u0 v1 v0 : Int) (k1 : 0 ≤ u2) (k2 : u2 ≤ v1) (k3 : 0 ≤ u1) (k4 : u1 < 18446744073709551616) (k5 : 0 ≤ u0) (k6 : u0 < 18446744073709551616) (k7 : 0 ≤ v1) (k8 : v1 < 18446744073709551616) (k9 : 0 ≤ v0) (k10 : v0 < 18446744073709551616) (kv : 0 < v1) :
    ∃ g, (∀ W : World, Calls Try.prog 89 #[.int .u64 u2, .int .u64 u1, .int .u64 u0, .int .u64 v1, .int .u64 v0] W fun e w' => e = .returned (.int .u64 g) ∧ ∃ n, w' = W.drewN n) ∧ IsGuess u2 u1 u0 v1 v0 g := by
  have hG : ∃ g, IsGuess u2 u1 u0 v1 v0 g := by
    obtain ⟨D, hDe⟩ : ∃ D, v1 * 18446744073709551616 + v0 = D := ⟨_, rfl⟩
    obtain ⟨U, hU⟩ : ∃ U, (u2 * 18446744073709551616 + u1) * 18446744073709551616 + u0 = U := ⟨_, rfl⟩
    have hD : 0 < D := by omega
    have hU0 : 0 ≤ U := by omega
    have e := Int.mul_ediv_add_emod U D
    have e1 := Int.emod_nonneg U (show D ≠ 0 by omega)
    have e2 := Int.emod_lt_of_pos U hD
    have e3 : 0 ≤ U / D := Int.ediv_nonneg hU0 (by omega)
    unfold IsGuess
    rw [hDe, hU]
    by_cases h : U / D < 18446744073709551615
    · refine ⟨U / D, e3, by omega, by rw [Int.mul_comm]; omega, Or.inl ?_⟩
      rw [Int.add_mul, Int.mul_comm (U / D) D]; omega
    · refine ⟨18446744073709551615, by decide, by decide, ?_, Or.inr rfl⟩
      have : 18446744073709551615 * D ≤ U / D * D := Int.mul_le_mul_of_nonneg_right (by omega) (by omega)
      rw [Int.mul_comm (U / D) D] at this; omega
  obtain ⟨g, hg⟩ := hG
  refine ⟨g, fun W => (guess_any u2 u1 u0 v1 v0 W k1 k2 k3 k4 k5 k6 k7 k8 k9 k10 kv).mono ?_, hg⟩
  rintro e w' ⟨g', rfl, hg', hn⟩
  exact ⟨ret_int (hg'.one kv k9 hg), hn⟩
end Go.Proofs.Ytmjbmgjegiimfaa
