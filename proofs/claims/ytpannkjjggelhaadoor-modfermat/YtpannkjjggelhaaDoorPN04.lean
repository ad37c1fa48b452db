/-
  MB: walks: math/bits' Rem64, TrailingZeros64, Len64; two words that are summed up (modp.total); modp's arithmetic of residues.
-/
import Derived.Test.YtpannkjjggelhaaDoorPN02
import Derived.Test.YtpannkjjggelhaaDoorPN03
import Derived.Shelf.Spec.TrailingZeros
import Derived.Lib.ItoaNum
import Derived.Deep.DeepCutAuto
import Derived.LoopN
import Derived.Deep.RegionHeld3
namespace Go.Proofs.YtpannkjjggelhaaDoor
open Go.RowKit Go.Shelf
set_option linter.unusedVariables false
set_option linter.unusedSimpArgs false
set_option maxRecDepth 100000 in
set_option maxHeartbeats 400000 in
theorem mrem64 (hi lo y : Int) (h0 : 0 ≤ hi) (h1 : hi < 18446744073709551616) (hy : 0 < y) (h2 : y < 18446744073709551616) (h3 : 0 ≤ lo) (h4 : lo < 18446744073709551616) (W : World) :
    Calls Tryd.prog 43 #[.int .u64 hi, .int .u64 lo, .int .u64 y] W fun e w' => e = .returned (.int .u64 ((hi * 18446744073709551616 + lo) % y)) ∧ ∃ n, w' = W.drewN n := by
  obtain ⟨m, hm⟩ : ∃ m, hi % y = m := ⟨_, rfl⟩
  have hm0 : 0 ≤ m := by rw [← hm]; exact Int.emod_nonneg _ (by omega)
  have hm1 : m < y := by rw [← hm]; exact Int.emod_lt_of_pos _ hy
  obtain ⟨d, r, hdiv, hd, hr, he⟩ := div64_ex m lo y hm0 hm1 h2 h3 h4
  have htm : hi.tmod y = m := by rw [Int.tmod_eq_emod_of_nonneg h0, hm]
  have HE : Hid ((hi * 18446744073709551616 + lo) % y = r) := by
    show _ = _
    have e1 : hi = y * (hi / y) + m := by rw [← hm]; have := Int.mul_ediv_add_emod hi y; omega
    have e2 : hi * 18446744073709551616 + lo = r + y * ((hi / y) * 18446744073709551616 + d) := by
      have e3 : hi * 18446744073709551616 = (y * (hi / y) + m) * 18446744073709551616 := by rw [← e1]
      grind
    rw [e2, Int.add_mul_emod_self_left]
    exact Int.emod_eq_of_lt hr.1 hr.2
  have hy0 : (y == 0) = false := by simp; omega
  clear hm he hd hr
  go_enter Tryd.func43, Tryd.ntmps43
  go_wp2_with (go_at_call 45; refine (hdiv _).mono ?_; rintro e w' ⟨rfl, nq, rfl⟩)
  go_ret
  exact ⟨by rw [HE.out]; rfl, _, rfl⟩
def mrenT : Go.Shelf.Ren := ⟨fun _ => 44, fun x => if x = 0 then 0 else if x = 3 then 3 else if x = 4 then 4 else if x = 5 then 5 else if x = 22 then 25 else if x = 25 then 46 else 77, fun _ => 0⟩
theorem mlays29 : Lays7.n29 Tryd.prog mrenT := by
  constructor <;> first | (intro w; kernel_rfl) | kernel_rfl
theorem mtrailing (x : Nat) (w : World) (hx : x < 18446744073709551616) (hT : TabAt 0 Lib.deBruijn64tab w) :
    Calls Tryd.prog 44 #[.int .u64 (x : Int)] w fun e w' => e = .returned (.int .i64 (Lib.ctz 64 x)) ∧ w' = w :=
  Any7.bits_TrailingZeros64 mlays29 x hx w fun _ => hT
def mrenL : Go.Shelf.Ren := ⟨fun _ => 35, fun x => if x = 3 then 3 else if x = 4 then 4 else if x = 5 then 5 else if x = 9 then 9 else if x = 46 then 46 else 25, fun x => x⟩
theorem mlays129 : Lays.n129 Tryd.prog mrenL := by
  constructor <;> first | (intro w; kernel_rfl) | kernel_rfl
theorem mlen64 (x : Int) (w : World) (h0 : 0 ≤ x) (h1 : x ≤ 18446744073709551615) :
    Calls Tryd.prog 35 #[.int .u64 x] w fun e w' => e = .returned (.int .i64 (Lib.bitLen x.toNat)) ∧ w' = w :=
  Any.bits_Len64 mlays129 x w h0 h1
/-- a sum of products in two words: what with tells -/
def WithAns (w w' : World) (e : Ending) (s : Int) : Prop :=
  ∃ h l, e = .returned (.agg #[.int .u64 h, .int .u64 l]) ∧ (0 ≤ h ∧ h < 18446744073709551616) ∧ (0 ≤ l ∧ l < 18446744073709551616) ∧ h * 18446744073709551616 + l = s ∧ Below w.heap.size w w'
theorem WithAns.at {w w' w'' : World} {e : Ending} {s : Int} (h : WithAns w w' e s) (hb : Below w.heap.size w w'') : WithAns w w'' e s := by
  obtain ⟨h, l, he, h1, h2, h3, _⟩ := h
  exact ⟨h, l, he, h1, h2, h3, hb⟩
set_option maxRecDepth 100000 in
set_option maxHeartbeats 1000000 in
theorem twith_any (h l a b : Int) (w : World) (hh : 0 ≤ h ∧ h < 18446744073709551616) (hl : 0 ≤ l ∧ l < 18446744073709551616) (ha : 0 ≤ a ∧ a < 18446744073709551616) (hb : 0 ≤ b ∧ b < 18446744073709551616)
    (hs : h * 18446744073709551616 + l + a * b < 340282366920938463463374607431768211456) :
    Calls Tryd.prog 37 #[.agg #[.int .u64 h, .int .u64 l], .int .u64 a, .int .u64 b] w fun e w' => WithAns w w' e (h * 18446744073709551616 + l + a * b) := by
  obtain ⟨hi, lo, hmul, hhi, hlo, hml⟩ := mul64_ex a b ha hb
  obtain ⟨d1, c1, hrun1, hd1, hc1, he1⟩ := add64_ex lo l 0 hlo hl (by decide) (by decide)
  obtain ⟨d2, c2, hrun2, hd2, hc2, he2⟩ := add64_ex hi h c1 ⟨hhi.1, by omega⟩ hh hc1.1 hc1.2
  have HE : Hid (WithAns w w (.returned (.agg #[.int .u64 d2, .int .u64 d1])) (h * 18446744073709551616 + l + a * b)) :=
    ⟨d2, d1, rfl, hd2, hd1, by omega, Below.refl _ _⟩
  clear hhi hlo hml hd1 he1 hc1 hd2 he2 hc2 hs hh hl ha hb
  go_enter Tryd.func37, Tryd.ntmps37
  go_wp2_with (first | simp only [hrun1] | simp only [hrun2] | (go_at_call 41; refine (hmul _).mono ?_; rintro e w' ⟨rfl, rfl⟩))
  exact bodyPost_ret (v := .agg #[.int .u64 d2, .int .u64 d1]) (by simp [results, Tryd.results37, go_sem]) rfl (HE.out.at (((Below.refl _ w).alloc (Nat.le_refl _) _).alloc (by simp) _))
set_option maxRecDepth 100000 in
set_option maxHeartbeats 400000 in
theorem trest_any (h l p r : Int) (w : World) (hh : 0 ≤ h ∧ h < 18446744073709551616) (hl : 0 ≤ l ∧ l < 18446744073709551616) (hp : 0 < p ∧ p < 18446744073709551616) (hr : (h * 18446744073709551616 + l) % p = r) :
    Calls Tryd.prog 38 #[.agg #[.int .u64 h, .int .u64 l], .int .u64 p] w fun e w' => e = .returned (.int .u64 r) ∧ Below w.heap.size w w' := by
  have hrem := mrem64 h l p hh.1 hh.2 hp.1 hp.2 hl.1 hl.2
  rw [hr] at hrem
  clear hr hh hl hp
  go_enter Tryd.func38, Tryd.ntmps38
  go_wp2_with (go_at_call 43; refine (hrem _).mono ?_; rintro e w' ⟨rfl, n, rfl⟩)
  go_ret
  exact ⟨rfl, below_drewN ((Below.refl _ w).alloc (Nat.le_refl _) _) _⟩
set_option maxRecDepth 100000 in
set_option maxHeartbeats 400000 in
theorem mtimes_any (p a b r : Int) (w : World) (hp : 0 < p ∧ p < 18446744073709551616) (ha : 0 ≤ a ∧ a < 18446744073709551616) (hb : 0 ≤ b ∧ b < 18446744073709551616) (hr : a * b % p = r) :
    Calls Tryd.prog 34 #[.int .u64 p, .int .u64 a, .int .u64 b] w fun e w' => e = .returned (.int .u64 r) ∧ Below w.heap.size w w' := by
  have hwith := twith_any 0 0 a b w (by decide) (by decide) ha hb (by
    have : a * b ≤ 18446744073709551615 * 18446744073709551615 := Int.mul_le_mul (by omega) (by omega) hb.1 (by decide)
    omega)
  have HR : Hid (a * b % p = r) := hr
  have HP : Hid (0 < p ∧ p < 18446744073709551616) := hp
  clear hr hp ha hb
  go_enter Tryd.func34, Tryd.ntmps34
  go_wp2_with (first
    | (go_at_call 37; refine hwith.mono ?_; rintro e w1 ⟨h, l, rfl, hh, hl, hs, hb1⟩; have HS : Hid ((h * 18446744073709551616 + l) % p = r) := (by show _ = _; rw [hs, ← HR.out]; congr 1; omega); have HH : Hid ((0 ≤ h ∧ h < 18446744073709551616) ∧ (0 ≤ l ∧ l < 18446744073709551616) ∧ Below w.heap.size w w1) := ⟨hh, hl, hb1⟩; clear hh hl hs hb1)
    | (go_at_call 38; refine (trest_any h l p r _ HH.out.1 HH.out.2.1 HP.out HS.out).mono ?_; rintro e w2 ⟨rfl, hb2⟩; have HB := HH.out.2.2.trans (hb2.mono HH.out.2.2.size)))
  go_ret
  exact ⟨rfl, HB⟩
set_option maxHeartbeats 400000 in
theorem mplus_any (p a b r : Int) (w : World) (hp : 0 < p ∧ p ≤ 2147483648) (ha : 0 ≤ a ∧ a < p) (hb : 0 ≤ b ∧ b < p) (hr : (a + b) % p = r) :
    Calls Tryd.prog 22 #[.int .u64 p, .int .u64 a, .int .u64 b] w fun e w' => e = .returned (.int .u64 r) ∧ w' = w := by
  obtain ⟨hp0, hp1⟩ := hp
  have a0 : 0 ≤ a := ha.1
  have a1 : a ≤ 2147483648 := by omega
  have b0 : 0 ≤ b := hb.1
  have b1 : b ≤ 2147483648 := by omega
  have hz : ¬ p = 0 := by omega
  have HR : Hid ((a + b).tmod p = r) := by show _ = _; rw [Int.tmod_eq_emod_of_nonneg (by omega)]; exact hr
  have hz' : (p == 0) = false := by simp; omega
  clear ha hb hr
  go_enter Tryd.func22, Tryd.ntmps22
  go_wp2
  go_ret
  exact ⟨ret_int (by first | exact HR.out | (rw [← HR.out, Int.tmod_eq_emod_of_nonneg (by omega)])), rfl⟩
set_option maxHeartbeats 400000 in
theorem mminus_any (p a b r : Int) (w : World) (hp : 0 < p ∧ p ≤ 2147483648) (ha : 0 ≤ a ∧ a < p) (hb : 0 ≤ b ∧ b < p) (hr : (a - b) % p = r) :
    Calls Tryd.prog 33 #[.int .u64 p, .int .u64 a, .int .u64 b] w fun e w' => e = .returned (.int .u64 r) ∧ w' = w := by
  obtain ⟨hp0, hp1⟩ := hp
  have a0 : 0 ≤ a := ha.1
  have a1 : a ≤ 2147483648 := by omega
  have b0 : 0 ≤ b := hb.1
  have b1 : b ≤ a + p := by omega
  have hz : ¬ p = 0 := by omega
  have HR : Hid ((a + p - b).tmod p = r) := by
    show _ = _; rw [Int.tmod_eq_emod_of_nonneg (by omega), show a + p - b = a - b + p by omega, Int.add_emod_right]; exact hr
  have hz' : (p == 0) = false := by simp; omega
  clear ha hb hr
  go_enter Tryd.func33, Tryd.ntmps33
  go_wp2
  go_ret
  exact ⟨ret_int (by first | exact HR.out | (rw [← HR.out, Int.tmod_eq_emod_of_nonneg (by omega)])), rfl⟩
end Go.Proofs.YtpannkjjggelhaaDoor
/-
  MD: walks: powers of residues, reciprocals; Miller and Rabin's test of what is a prime; the page's trial divisions.
-/
namespace Go.Proofs.YtpannkjjggelhaaDoor
open Go.RowKit Go.Shelf
set_option linter.unusedVariables false
set_option linter.unusedSimpArgs false
theorem mand_one (n b : Nat) (hn : n < 18446744073709551616) : bits BinOp.and IntKind.u64 ((n : Int) / 2 ^ b) 1 = ((n / 2 ^ b % 2 : Nat) : Int) := by
  have hc : (n : Int) / 2 ^ b = ((n / 2 ^ b : Nat) : Int) := by rw [Int.natCast_ediv, Int.natCast_pow]; rfl
  rw [hc]
  have h := bits_and_u64_nat (n / 2 ^ b) 1 (Nat.lt_of_le_of_lt (Nat.div_le_self _ _) hn) (by omega)
  rw [Nat.and_one_is_mod] at h
  exact h
theorem powhalf (a : Int) (n b : Nat) : a ^ (n / 2 ^ b) = a ^ (n / 2 ^ (b + 1)) * a ^ (n / 2 ^ (b + 1)) * a ^ (n / 2 ^ b % 2) := by
  have h : n / 2 ^ b = n / 2 ^ (b + 1) + n / 2 ^ (b + 1) + n / 2 ^ b % 2 := by
    rw [Nat.pow_succ, ← Nat.div_div_eq_div_mul]; omega
  rw [← Int.pow_add, ← Int.pow_add, ← h]
theorem emod_mul (a b p : Int) : a % p * b % p = a * b % p := by
  rw [Int.mul_emod, Int.emod_emod_of_dvd a (Int.dvd_refl p), ← Int.mul_emod]
theorem emod_sq (a p : Int) : a % p * (a % p) % p = a * a % p := (Int.mul_emod a a p).symm
set_option maxRecDepth 100000 in
set_option maxHeartbeats 1000000 in
theorem raised_any (p a r : Int) (n : Nat) (w : World) (hp : 2 ≤ p ∧ p ≤ 2147483648) (ha : 0 ≤ a ∧ a < 18446744073709551616) (hn : n < 18446744073709551616) (hr : a ^ n % p = r) :
    Calls Tryd.prog 39 #[.int .u64 p, .int .u64 a, .int .u64 (n : Int)] w fun e w' => e = .returned (.int .u64 r) ∧ Below w.heap.size w w' := by
  have hlen := mlen64 (n : Int) w (by omega) (by omega)
  simp only [Int.toNat_natCast] at hlen
  have b4 : Lib.bitLen n ≤ 64 := Lib.bitLen_le n 64 (by omega) (by omega)
  have b5 : n < 2 ^ Lib.bitLen n := by
    by_cases h0 : n = 0
    · subst h0; exact Nat.two_pow_pos _
    · exact (bitLen_bounds (y := n) (by omega) hn).2.2
  obtain ⟨l, hl⟩ : ∃ l, Lib.bitLen n = l := ⟨_, rfl⟩
  rw [hl] at hlen b4 b5
  clear hl
  have HR : Hid (a ^ n % p = r ∧ n < 2 ^ l) := ⟨hr, b5⟩
  have HB : Hid ((0 < p ∧ p < 18446744073709551616) ∧ (0 ≤ a ∧ a < 18446744073709551616)) := ⟨by omega, ha⟩
  have h1p : (1 : Int).tmod p = 1 := by rw [Int.tmod_eq_emod_of_nonneg (by decide)]; exact Int.emod_eq_of_lt (by decide) (by omega)
  have hz : (p == 0) = false := by simp; omega
  have hz1 : ¬ p = 0 := by omega
  obtain ⟨hp0, hp1⟩ := hp
  clear hr b5 ha
  go_enter Tryd.func39, Tryd.ntmps39
  go_wp2_with (go_at_call 35; refine hlen.mono ?_; rintro e w3 ⟨rfl, hw3⟩; replace hw3 := hw3.symm; subst hw3)
  go_loopw [7, 8] (fun z i wr => ∃ (b : Nat) (rv : Int), i = .int .i64 ((b : Int) - 1) ∧ b ≤ 64 ∧ z = .int .u64 rv ∧ Hid (rv = a ^ (n / 2 ^ b) % p) ∧ Below w.heap.size w wr) (fun _ i _ => (intOf i + 1).toNat)
  case atStart =>
    exact ⟨l, 1, by go_num, b4, by first | rfl | (congr 1), by (show _ = _; rw [Nat.div_eq_of_lt HR.out.2, Int.pow_zero]; exact (Int.emod_eq_of_lt (by decide) (by omega)).symm), Below.refl _ _⟩
  case round =>
    obtain ⟨b, rv, rfl, hb64, rfl, HV, hbe⟩ := hrel
    have HBE : Hid (Below w.heap.size w wr) := hbe
    clear hbe
    rcases b with _ | b
    · have HE : Hid (rv = r) := by
        show _ = _
        have := HV.out
        rw [Nat.pow_zero, Nat.div_one] at this; rw [this]; exact HR.out.1
      go_wp2
      go_ret
      exact ⟨ret_int HE.out, HBE.out⟩
    · have hand := mand_one n b hn
      have hph := powhalf a n b
      have hrv0 : 0 ≤ rv ∧ rv < p := by rw [HV.out]; exact ⟨Int.emod_nonneg _ (by omega), Int.emod_lt_of_pos _ (by omega)⟩
      obtain ⟨r1, hr1⟩ : ∃ r1, rv * rv % p = r1 := ⟨_, rfl⟩
      have hr1b : 0 ≤ r1 ∧ r1 < p := by rw [← hr1]; exact ⟨Int.emod_nonneg _ (by omega), Int.emod_lt_of_pos _ (by omega)⟩
      have HV1 : Hid (r1 = a ^ (n / 2 ^ (b + 1)) * a ^ (n / 2 ^ (b + 1)) % p) := by
        show _ = _
        rw [← hr1, HV.out, emod_sq]
      have HC1 : Hid (∀ W : World, Calls Tryd.prog 34 #[.int .u64 p, .int .u64 rv, .int .u64 rv] W fun e w' => e = .returned (.int .u64 r1) ∧ Below W.heap.size W w') :=
        fun W => mtimes_any p rv rv r1 W HB.out.1 ⟨hrv0.1, by omega⟩ ⟨hrv0.1, by omega⟩ hr1
      clear hr1 hrv0
      by_cases hbit : n / 2 ^ b % 2 = 1
      · obtain ⟨r2, hr2⟩ : ∃ r2, r1 * a % p = r2 := ⟨_, rfl⟩
        have HC2 : Hid (∀ W : World, Calls Tryd.prog 34 #[.int .u64 p, .int .u64 r1, .int .u64 a] W fun e w' => e = .returned (.int .u64 r2) ∧ Below W.heap.size W w') :=
          fun W => mtimes_any p r1 a r2 W HB.out.1 ⟨hr1b.1, by omega⟩ HB.out.2 hr2
        have HV2 : Hid (r2 = a ^ (n / 2 ^ b) % p) := by
          show _ = _
          rw [hph, hbit, Int.pow_succ, Int.pow_zero, Int.one_mul, ← hr2, HV1.out, emod_mul]
        rw [hbit] at hand
        clear hph hbit hr2 hr1b
        go_wp2_with (first
          | (go_at_call 34; have _t := HB1; refine (HC2.out _).mono ?_; rintro e w5 ⟨rfl, hb5⟩; have HB2 : Hid (Below w.heap.size w w5) := (by have h := HB1.out; exact h.trans (hb5.mono h.size)); clear hb5)
          | (go_at_call 34; refine (HC1.out _).mono ?_; rintro e w4 ⟨rfl, hb4⟩; have HB1 : Hid (Below w.heap.size w w4) := (by have h := HBE.out; exact h.trans (hb4.mono h.size)); clear hb4))
        go_roundw
        case rel => exact ⟨b, r2, rfl, by omega, rfl, HV2, HB2.out⟩
        case measure => simp [intOf]
      · have hbit0 : n / 2 ^ b % 2 = 0 := by omega
        have HV2 : Hid (r1 = a ^ (n / 2 ^ b) % p) := by
          show _ = _
          rw [hph, hbit0, Int.pow_zero, Int.mul_one]; exact HV1.out
        rw [hbit0] at hand
        clear hph hbit hbit0 hr1b
        go_wp2_with (first
          | (go_at_call 34; refine (HC1.out _).mono ?_; rintro e w4 ⟨rfl, hb4⟩; have HB1 : Hid (Below w.heap.size w w4) := (by have h := HBE.out; exact h.trans (hb4.mono h.size)); clear hb4))
        go_roundw
        case rel => exact ⟨b, r1, rfl, by omega, rfl, HV2, HB1.out⟩
        case measure => simp [intOf]
set_option maxHeartbeats 400000 in
theorem minverse_any (p a r : Int) (w : World) (hp : 2 ≤ p ∧ p ≤ 2147483648) (ha : 0 ≤ a ∧ a < 18446744073709551616) (hr : a ^ (p.toNat - 2) % p = r) :
    Calls Tryd.prog 32 #[.int .u64 p, .int .u64 a] w fun e w' => e = .returned (.int .u64 r) ∧ Below w.heap.size w w' := by
  obtain ⟨n, rfl⟩ : ∃ n : Nat, p = (n : Int) + 2 := ⟨p.toNat - 2, by omega⟩
  rw [show ((n : Int) + 2).toNat - 2 = n by omega] at hr
  have hcon := raised_any ((n : Int) + 2) a r n w hp ha (by omega) hr
  have hn : (n : Int) ≤ 2147483646 := by omega
  have e : (n : Int) + 2 - 2 = (n : Int) := by omega
  clear hr hp ha
  go_enter Tryd.func32, Tryd.ntmps32
  go_wp2_with (go_at_call 39; refine hcon.mono ?_; rintro e w3 ⟨rfl, hw3⟩)
  go_ret
  exact ⟨rfl, hw3⟩
end Go.Proofs.YtpannkjjggelhaaDoor
/-
  ME: walks: a prime looks like one to Miller and Rabin; the page's trial divisions tell primes alone.
-/
namespace Go.Proofs.YtpannkjjggelhaaDoor
open Go.RowKit Go.Shelf
set_option linter.unusedVariables false
set_option linter.unusedSimpArgs false
theorem mctz_spec {x : Nat} (h0 : x ≠ 0) (h : x < 18446744073709551616) : ∃ m, x = 2 ^ Lib.ctz 64 x * (2 * m + 1) ∧ Lib.ctz 64 x < 64 := by
  have e : Lib.ctz 64 x = Lib.ctzFrom 64 x := by simp [Lib.ctz, h0]
  rw [e]
  exact Lib.ctzFrom_spec 64 x (by omega) h
/-- the power of p - 1 is 1 -/
theorem IsPr.little {p a : Int} (h : IsPr p) (h0 : 0 < a) (h1 : a < p) : a ^ (p.toNat - 1) % p = 1 := by
  have hp := h.two
  obtain ⟨k, hk⟩ := h.inv h0 h1
  have e : a ^ (p.toNat - 1) = a * a ^ (p.toNat - 2) := by
    rw [show p.toNat - 1 = (p.toNat - 2) + 1 by omega, Int.pow_succ]; grind
  rw [e, hk, Int.add_mul_emod_self_left]
  exact Int.emod_eq_of_lt (by decide) (by omega)
set_option maxRecDepth 100000 in
set_option maxHeartbeats 1000000 in
theorem looksSo_any (p a : Int) (w : World) (hpr : IsPr p) (hp : p ≤ 2147483648) (ha : 0 < a ∧ a < p) (hT : TabAt 0 Lib.deBruijn64tab w) :
    Calls Tryd.prog 40 #[.int .u64 p, .int .u64 a] w fun e w' => e = .returned (.bool true) ∧ Below w.heap.size w w' := by
  have hp2 := hpr.two
  obtain ⟨m, hm⟩ : ∃ m : Nat, p = (m : Int) + 1 := ⟨p.toNat - 1, by omega⟩
  subst hm
  have hm64 : m < 18446744073709551616 := by omega
  have htz := mtrailing m w hm64 hT
  obtain ⟨k, hk, ht64⟩ := mctz_spec (x := m) (by omega) hm64
  obtain ⟨t, ht⟩ : ∃ t, Lib.ctz 64 m = t := ⟨_, rfl⟩
  rw [ht] at htz hk ht64
  have hD : m / 2 ^ t * 2 ^ t = m := by
    have h1 : m / 2 ^ t = 2 * k + 1 := by
      rw [hk]; exact Nat.mul_div_cancel_left _ (Nat.two_pow_pos t)
    rw [h1, Nat.mul_comm]; exact hk.symm
  have hcast : (m : Int) / 2 ^ t = ((m / 2 ^ t : Nat) : Int) := by rw [Int.natCast_ediv, Int.natCast_pow]; rfl
  obtain ⟨D, hDd⟩ : ∃ D, m / 2 ^ t = D := ⟨_, rfl⟩
  rw [hDd] at hcast hD
  have hDm : D ≤ m := by rw [← hDd]; exact Nat.div_le_self _ _
  obtain ⟨x0, hx0⟩ : ∃ x0, a ^ D % ((m : Int) + 1) = x0 := ⟨_, rfl⟩
  have hrai := fun W => raised_any ((m : Int) + 1) a x0 D W ⟨hp2, hp⟩ ⟨by omega, by omega⟩ (by omega) hx0
  have HF : Hid (a ^ (D * 2 ^ t) % ((m : Int) + 1) = 1) := by
    show _ = _
    rw [hD]
    have := hpr.little ha.1 ha.2
    rwa [show ((m : Int) + 1).toNat - 1 = m by omega] at this
  have HX0 : Hid (x0 = a ^ (D * 2 ^ 0) % ((m : Int) + 1)) := by show _ = _; rw [Nat.pow_zero, Nat.mul_one]; exact hx0.symm
  have HP : Hid (IsPr ((m : Int) + 1) ∧ (m : Int) + 1 ≤ 2147483648 ∧ 2 ≤ (m : Int) + 1) := ⟨hpr, hp, hp2⟩
  have e1 : (m : Int) + 1 - 1 = (m : Int) := by omega
  have hm1 : (m : Int) ≤ 2147483647 := by omega
  have hm2 : (1 : Int) ≤ (m : Int) := by omega
  have ht0 : (0 : Int) ≤ (t : Int) := by omega
  have ht1 : (t : Int) ≤ 63 := by omega
  have hxb : 0 ≤ x0 ∧ x0 < (m : Int) + 1 := by rw [← hx0]; exact ⟨Int.emod_nonneg _ (by omega), Int.emod_lt_of_pos _ (by omega)⟩
  clear hk hD hDd ht hx0 hpr hp hp2 ha
  by_cases h1 : x0 = 1
  · subst h1
    go_enter Tryd.func40, Tryd.ntmps40
    go_wp2_with (first
      | (go_at_call 44; refine htz.mono ?_; rintro e w1 ⟨rfl, hw1⟩; replace hw1 := hw1.symm; subst hw1)
      | (go_at_call 39; refine (hrai _).mono ?_; rintro e w2 ⟨rfl, hb2⟩))
    go_ret
    exact ⟨rfl, hb2⟩
  · have h1' : (x0 == 1) = false := by simp; exact h1
    have HN : Hid (¬ x0 = 1) := h1
    have HXB : Hid (0 ≤ x0 ∧ x0 < (m : Int) + 1) := hxb
    clear h1 hxb
    go_enter Tryd.func40, Tryd.ntmps40
    go_wp2_with (first
      | (go_at_call 44; refine htz.mono ?_; rintro e w1 ⟨rfl, hw1⟩; replace hw1 := hw1.symm; subst hw1)
      | (go_at_call 39; refine (hrai _).mono ?_; rintro e w2 ⟨rfl, hb2⟩))
    clear h1'
    go_loopw [7, 22] (fun z i wr => ∃ (j : Nat) (x : Int), i = .int .i64 (j : Int) ∧ j ≤ t ∧ z = .int .u64 x ∧ Hid (x = a ^ (D * 2 ^ j) % ((m : Int) + 1) ∧ ¬ x = 1 ∧ 0 ≤ x ∧ x < (m : Int) + 1) ∧ Below w.heap.size w wr) (fun _ i _ => t - (intOf i).toNat)
    case atStart => exact ⟨0, x0, by go_num, Nat.zero_le _, rfl, ⟨HX0.out, HN.out, HXB.out⟩, hb2⟩
    case round =>
      obtain ⟨j, x, rfl, hjt, rfl, HV, hbe⟩ := hrel
      have HBE : Hid (Below w.heap.size w wr) := hbe
      clear hbe hb2
      by_cases hj : j < t
      · by_cases hx : x = (m : Int)
        · have hxm : (x == (m : Int)) = true := by simpa using hx
          have hlt : (j : Int) < (t : Int) := by omega
          clear hx
          go_wp2
          go_ret
          exact ⟨rfl, HBE.out⟩
        · have hxm : (x == (m : Int)) = false := by simpa using hx
          obtain ⟨r1, hr1⟩ : ∃ r1, x * x % ((m : Int) + 1) = r1 := ⟨_, rfl⟩
          have HC1 : Hid (∀ W : World, Calls Tryd.prog 34 #[.int .u64 ((m : Int) + 1), .int .u64 x, .int .u64 x] W fun e w' => e = .returned (.int .u64 r1) ∧ Below W.heap.size W w') :=
            fun W => mtimes_any _ x x r1 W (by omega) (by have := HV.out; omega) (by have := HV.out; omega) hr1
          have HV2 : Hid (r1 = a ^ (D * 2 ^ (j + 1)) % ((m : Int) + 1) ∧ ¬ r1 = 1 ∧ 0 ≤ r1 ∧ r1 < (m : Int) + 1) := by
            have hv := HV.out
            refine ⟨?_, ?_, ?_, ?_⟩
            · rw [← hr1, hv.1, emod_sq, ← Int.pow_add]
              have e2 : D * 2 ^ j + D * 2 ^ j = D * 2 ^ (j + 1) := by rw [Nat.pow_succ, ← Nat.mul_assoc]; omega
              rw [e2]
            · intro e
              rcases HP.out.1.root (x := x) hv.2.2.1 hv.2.2.2 (by rw [hr1]; exact e) with h | h
              · exact hv.2.1 h
              · exact hx (by omega)
            · rw [← hr1]; exact Int.emod_nonneg _ (by omega)
            · rw [← hr1]; exact Int.emod_lt_of_pos _ (by omega)
          have hlt : (j : Int) < (t : Int) := by omega
          clear hx hr1
          go_wp2_with (go_at_call 34; refine (HC1.out _).mono ?_; rintro e w4 ⟨rfl, hb4⟩; have HB1 : Hid (Below w.heap.size w w4) := (by have h := HBE.out; exact h.trans (hb4.mono h.size)); clear hb4)
          go_roundw
          case rel => exact ⟨j + 1, r1, by go_num, by omega, rfl, HV2, HB1.out⟩
          case measure => simp [intOf]; omega
      · exfalso
        have hv := HV.out
        have : j = t := by omega
        subst this
        exact hv.2.1 (hv.1.trans HF.out)
theorem mtab_later {W W' : World} (h : TabAt 0 Lib.deBruijn64tab W) (hb : Below W.heap.size W W') : TabAt 0 Lib.deBruijn64tab W' := fun j hj => (hb.cell (p := ⟨0, j, none⟩) (cell_lt (h j hj))).trans (h j hj)
theorem pr_rem {p b : Int} (h : IsPr p) (hb : 2 ≤ b) (hlt : b < p) : p % b ≠ 0 := fun e => h.no b hb hlt (Int.dvd_of_emod_eq_zero e)
set_option maxRecDepth 100000 in
set_option maxHeartbeats 2000000 in
theorem isPrime_any (p : Int) (w : World) (hpr : IsPr p) (hp : p < 2147483648) (hT : TabAt 0 Lib.deBruijn64tab w) :
    Calls Tryd.prog 36 #[.int .u64 p] w fun e w' => e = .returned (.bool true) ∧ Below w.heap.size w w' := by
  have hp2 := hpr.two
  have i0 : ∀ w, (Instr.index 72 (.agg #[.int .u64 2, .int .u64 3, .int .u64 5, .int .u64 7]) (.int .i64 0)).run Tryd.prog w = .ok (.int .u64 2) w := fun _ => by kernel_rfl
  have i1 : ∀ w, (Instr.index 72 (.agg #[.int .u64 2, .int .u64 3, .int .u64 5, .int .u64 7]) (.int .i64 1)).run Tryd.prog w = .ok (.int .u64 3) w := fun _ => by kernel_rfl
  have i2 : ∀ w, (Instr.index 72 (.agg #[.int .u64 2, .int .u64 3, .int .u64 5, .int .u64 7]) (.int .i64 2)).run Tryd.prog w = .ok (.int .u64 5) w := fun _ => by kernel_rfl
  have i3 : ∀ w, (Instr.index 72 (.agg #[.int .u64 2, .int .u64 3, .int .u64 5, .int .u64 7]) (.int .i64 3)).run Tryd.prog w = .ok (.int .u64 7) w := fun _ => by kernel_rfl
  by_cases h7 : p ≤ 7
  · have hc : p = 2 ∨ p = 3 ∨ p = 5 ∨ p = 7 := by
      by_cases h4 : p = 4
      · subst h4; exact absurd (by decide) (hpr.no 2 (by decide) (by decide))
      · by_cases h6 : p = 6
        · subst h6; exact absurd (by decide) (hpr.no 2 (by decide) (by decide))
        · omega
    clear hpr hp h7 hp2
    rcases hc with rfl | rfl | rfl | rfl <;>
    · go_enter Tryd.func36, Tryd.ntmps36
      go_wp2
      refine wp_loop_rounds 4 ?_
      repeat (rw [rounds_succ]; go_wp2)
      go_ret
      exact ⟨rfl, Below.refl _ _⟩
  · have h0 : 0 ≤ p := by omega
    have hplt : ¬ 2147483648 ≤ p := by omega
    have hp22 : ¬ p < 2 := by omega
    have r2 : (p % 2 == 0) = false := by simpa using pr_rem hpr (b := 2) (by decide) (by omega)
    have r3 : (p % 3 == 0) = false := by simpa using pr_rem hpr (b := 3) (by decide) (by omega)
    have r5 : (p % 5 == 0) = false := by simpa using pr_rem hpr (b := 5) (by decide) (by omega)
    have r7 : (p % 7 == 0) = false := by simpa using pr_rem hpr (b := 7) (by decide) (by omega)
    have H2 := fun W hW => looksSo_any p 2 W hpr (by omega) (by omega) hW
    have H3 := fun W hW => looksSo_any p 3 W hpr (by omega) (by omega) hW
    have H5 := fun W hW => looksSo_any p 5 W hpr (by omega) (by omega) hW
    have H7 := fun W hW => looksSo_any p 7 W hpr (by omega) (by omega) hW
    have HH : Hid (TabAt 0 Lib.deBruijn64tab w) := hT
    clear hpr hT h7 hp2
    go_enter Tryd.func36, Tryd.ntmps36
    go_wp2
    refine wp_loop_rounds 5 ?_
    (rw [rounds_succ]; go_wp2)
    (rw [rounds_succ]; go_wp2)
    (rw [rounds_succ]; go_wp2)
    (rw [rounds_succ]; go_wp2)
    (rw [rounds_succ]; go_wp2)
    refine wp_loop_rounds 5 ?_
    (rw [rounds_succ]; go_wp2_with (go_at_call 40; refine (H2 _ HH.out).mono ?_; rintro e w2 ⟨rfl, hb2⟩))
    (rw [rounds_succ]; go_wp2_with (go_at_call 40; refine (H3 _ (mtab_later HH.out hb2)).mono ?_; rintro e w3 ⟨rfl, hb3'⟩; have hb3 := hb2.trans (hb3'.mono hb2.size); clear hb3'))
    (rw [rounds_succ]; go_wp2_with (go_at_call 40; refine (H5 _ (mtab_later HH.out hb3)).mono ?_; rintro e w5 ⟨rfl, hb5'⟩; have hb5 := hb3.trans (hb5'.mono hb3.size); clear hb5'))
    (rw [rounds_succ]; go_wp2_with (go_at_call 40; refine (H7 _ (mtab_later HH.out hb5)).mono ?_; rintro e w7 ⟨rfl, hb7'⟩; have hb7 := hb5.trans (hb7'.mono hb5.size); clear hb7'))
    (rw [rounds_succ]; go_wp2)
    go_ret
    exact ⟨rfl, hb7⟩
end Go.Proofs.YtpannkjjggelhaaDoor
/-
  MF: walks: rows of residues in memory: trimmed, one coefficient of a product.
-/
namespace Go.Proofs.YtpannkjjggelhaaDoor
open Go.RowKit Go.Shelf
set_option linter.unusedVariables false
set_option linter.unusedSimpArgs false
/-- how long a slice is -/
def slLen : Value → Nat
  | .slice _ n _ => n
  | _ => 0
/-- a row cut behind its last place that is not 0 -/
def MTrim (ao : Option Addr) (len cap : Nat) (zs : List Int) (e : Ending) : Prop :=
  ∃ n, n ≤ len ∧ e = .returned (.slice ao n cap) ∧ Can (zs.take n) ∧ ∀ t, n ≤ t → dig zs t = 0
set_option maxHeartbeats 400000 in
theorem mtrimmed_any (ao : Option Addr) (len cap : Nat) (zs : List Int) (w : World) (hr : RowAt w .u64 ao len cap zs) (hl : cap ≤ 9223372036854775807) :
    Calls Tryd.prog 30 #[.slice ao len cap] w fun e w' => MTrim ao len cap zs e ∧ w' = w := by
  have hcl := hr.hcap
  have HR : Hid (RowAt w .u64 ao len cap zs ∧ len = zs.length) := ⟨hr, hr.hlen⟩
  clear hr
  go_enter Tryd.func30, Tryd.ntmps30
  go_wp2
  go_loop [0] (fun s => ∃ k : Nat, k ≤ len ∧ s = .slice ao k cap ∧ Hid (∀ t, k ≤ t → dig zs t = 0)) (fun s => slLen s)
  case atStart => exact ⟨len, Nat.le_refl _, rfl, fun t h1 => dig_past (by rw [← HR.out.2]; exact h1)⟩
  case round =>
    obtain ⟨k, hk, rfl, HZ⟩ := hrel
    by_cases hk0 : k = 0
    · subst hk0
      go_wp2
      go_ret
      exact ⟨⟨0, Nat.zero_le _, rfl, can_take (Nat.zero_le _) (fun h => absurd h (by omega)), fun t h => HZ.out t h⟩, rfl⟩
    · have hkp : (0 : Int) < (k : Int) := by omega
      obtain ⟨b, off, rfl, hb, hc⟩ := HR.out.1.get (by omega)
      have hcell := hc (k - 1) (by omega)
      have e1 : (k : Int) - 1 = ((k - 1 : Nat) : Int) := by omega
      have e2 : k - 1 < k := by omega
      have e3 : (k : Int) ≤ (cap : Int) := by omega
      have e4 : k - 1 ≤ cap := by omega
      clear hc
      by_cases hd : dig zs (k - 1) = 0
      · rw [hd] at hcell
        have HD : Hid (dig zs (k - 1) = 0) := hd
        clear hd
        go_wp2
        go_round
        case rel => exact ⟨k - 1, by omega, by first | rfl | (congr 1), fun t h2 => by
          by_cases e : t = k - 1
          · subst e; exact HD.out
          · exact HZ.out t (by omega)⟩
        case measure => simp [slLen]; omega
      · have hd' : (dig zs (k - 1) == 0) = false := by simpa using hd
        obtain ⟨z, hz⟩ : ∃ z, dig zs (k - 1) = z := ⟨_, rfl⟩
        rw [hz] at hcell hd'
        have HD : Hid (dig zs (k - 1) ≠ 0) := hd
        clear hd hz
        go_wp2
        go_ret
        exact ⟨⟨k, hk, rfl, can_take (HR.out.2 ▸ hk) (fun _ => HD.out), fun t h1 => HZ.out t h1⟩, rfl⟩
/-- a row of residues -/
structure FRow (p : Int) (w : World) (ao : Option Addr) (len cap : Nat) (zs : List Int) : Prop where
  row : RowAt w .u64 ao len cap zs
  wd : Wd p zs
  short : len ≤ 4194304
theorem FRow.later {p : Int} {w w' : World} {ao : Option Addr} {len cap : Nat} {zs : List Int} (h : FRow p w ao len cap zs) (hb : Below w.heap.size w w') : FRow p w' ao len cap zs := ⟨h.row.later hb, h.wd, h.short⟩
theorem FRow.cell {p : Int} {w : World} {ao : Option Addr} {len cap : Nat} {zs : List Int} (h : FRow p w ao len cap zs) (hp : 0 < p) {k : Nat} (hk : k < len) : ∃ b off, ao = some ⟨b, off, none⟩ ∧ b < w.heap.size ∧ w.cell? ⟨b, off + k, none⟩ = some (.int .u64 (dig zs k)) ∧ 0 ≤ dig zs k ∧ dig zs k < p := by
  obtain ⟨b, off, rfl, hb, hc⟩ := h.row.get (by omega)
  exact ⟨b, off, rfl, hb, hc k hk, (h.wd.dig hp k).1, (h.wd.dig hp k).2⟩
set_option maxRecDepth 100000 in
set_option maxHeartbeats 4000000 in
theorem coefficient_any (p r : Int) (ao bo : Option Addr) (la ca lb cb k : Nat) (f g : List Int) (w : World) (hp : 0 < p ∧ p ≤ 2147483648) (hf : FRow p w ao la ca f) (hg : FRow p w bo lb cb g) (hk : k ≤ 16777216) (hr : dig (mulL f g) k % p = r) :
    Calls Tryd.prog 31 #[.int .u64 p, .slice ao la ca, .slice bo lb cb, .int .i64 (k : Int)] w fun e w' => e = .returned (.int .u64 r) ∧ Below w.heap.size w w' := by
  obtain ⟨hp0, hp1⟩ := hp
  have HF : Hid (FRow p w ao la ca f ∧ FRow p w bo lb cb g ∧ la = f.length ∧ lb = g.length) := ⟨hf, hg, hf.row.hlen, hg.row.hlen⟩
  have HR : Hid (dig (mulL f g) k % p = r) := hr
  have hla := hf.short
  have hlb := hg.short
  clear hf hg hr
  obtain ⟨W, hW⟩ : ∃ W, W = w.alloc (.cells #[.int .u64 0, .int .u64 0] 69) := ⟨_, rfl⟩
  have HW : Hid (Below w.heap.size w W ∧ Blk W w.heap.size .u64 69 [0, 0] ∧ w.heap.size < W.heap.size) := by
    rw [hW]; exact ⟨(Below.refl _ _).alloc (Nat.le_refl _) _, Blk.new w .u64 69 [0, 0], by simp⟩
  obtain ⟨i0, hi0⟩ : ∃ i0 : Nat, i0 = k + 1 - lb := ⟨_, rfl⟩
  obtain ⟨i1, hi1⟩ : ∃ i1 : Nat, i1 = min (k + 1) la := ⟨_, rfl⟩
  have e0 : max (0 : Int) ((k : Int) - (lb : Int) + 1) = (i0 : Int) := by omega
  have e1 : min (k : Int) ((la : Int) - 1) = (i1 : Int) - 1 := by omega
  have HI : Hid (i0 = k + 1 - lb ∧ i1 = min (k + 1) la) := ⟨hi0, hi1⟩
  clear hi0 hi1
  go_enter Tryd.func31, Tryd.ntmps31
  go_wp2
  rw [← hW]
  clear hW e0
  obtain ⟨G, hG⟩ : ∃ G, G = w.heap.size := ⟨_, rfl⟩
  rw [← hG]
  have HG : Hid (G = w.heap.size ∧ Below w.heap.size w W ∧ Blk W G .u64 69 [0, 0] ∧ G < W.heap.size) := by rw [hG]; exact ⟨rfl, HW.out⟩
  clear hG HW
  go_loopw [10] (fun i wr => ∃ (j : Nat) (h l : Int), i = .int .i64 (j : Int) ∧ i0 ≤ j ∧ j ≤ k + 1 ∧ Hid (Blk wr G .u64 69 [h, l] ∧ (0 ≤ h ∧ h < 18446744073709551616) ∧ (0 ≤ l ∧ l < 18446744073709551616) ∧ h * 18446744073709551616 + l = cs f g k j ∧ Below w.heap.size w wr ∧ G < wr.heap.size)) (fun i _ => k + 1 - (intOf i).toNat)
  case atStart => exact ⟨i0, 0, 0, rfl, Nat.le_refl _, by have := HI.out; omega, HG.out.2.2.1, by decide, by decide, by rw [cs_low (by rw [← HF.out.2.2.2]; have := HI.out; omega)]; rfl, HG.out.2.1, HG.out.2.2.2⟩
  case round =>
    obtain ⟨j, h, l, rfl, hij, hjk, HS⟩ := hrel
    have hc0 := HS.out.1.cell (j := 0) (by simp)
    have hc1 := HS.out.1.cell (j := 1) (by simp)
    have hfz := HS.out.1.frozen
    simp only [dig, List.getD_cons_zero, List.getD_cons_succ] at hc0 hc1
    by_cases hj : j < i1
    · have hja : j < la ∧ j ≤ k ∧ k - j < lb := by have := HI.out; omega
      obtain ⟨b1, o1, rfl, hb1, hx, x0, x1⟩ := (HF.out.1.later HS.out.2.2.2.2.1).cell hp0 hja.1
      obtain ⟨b2, o2, rfl, hb2, hy, y0, y1⟩ := (HF.out.2.1.later HS.out.2.2.2.2.1).cell hp0 hja.2.2
      have hcs := cs_bound hp0 hp1 HF.out.1.wd HF.out.2.1.wd k j
      obtain ⟨x, hxe⟩ : ∃ x, dig f j = x := ⟨_, rfl⟩
      obtain ⟨y, hye⟩ : ∃ y, dig g (k - j) = y := ⟨_, rfl⟩
      rw [hxe] at hx x0 x1
      rw [hye] at hy y0 y1
      have hxy : x * y ≤ 2147483648 * 2147483648 := Int.mul_le_mul (by omega) (by omega) y0 (by decide)
      have HCW : Hid (∀ W', Calls Tryd.prog 37 #[.agg #[.int .u64 h, .int .u64 l], .int .u64 x, .int .u64 y] W' fun e w' => WithAns W' w' e (h * 18446744073709551616 + l + x * y)) :=
        fun W' => twith_any h l x y W' HS.out.2.1 HS.out.2.2.1 ⟨x0, by omega⟩ ⟨y0, by omega⟩ (by
          rw [HS.out.2.2.2.1]
          have : (j : Int) * 4611686018427387904 ≤ 16777217 * 4611686018427387904 := Int.mul_le_mul_of_nonneg_right (by omega) (by decide)
          omega)
      have HE : Hid (h * 18446744073709551616 + l + x * y = cs f g k (j + 1)) := by show _ = _; rw [HS.out.2.2.2.1, cs, hxe, hye]
      have hb1' : Hid (b1 < wr.heap.size ∧ b2 < wr.heap.size) := ⟨hb1, hb2⟩
      have KS : Hid (∀ w', Below wr.heap.size wr w' → w'.cell? ⟨b1, o1 + j, none⟩ = some (.int .u64 x) ∧ w'.cell? ⟨b2, o2 + (k - j), none⟩ = some (.int .u64 y)) := fun w' hb => ⟨(hb.cell (p := ⟨b1, o1 + j, none⟩) hb1).trans hx, (hb.cell (p := ⟨b2, o2 + (k - j), none⟩) hb2).trans hy⟩
      have hbg : b1 ≠ G ∧ b2 ≠ G := by
        constructor
        · intro e; subst e
          obtain ⟨b, off, e1, e2, _⟩ := HF.out.1.cell hp0 hja.1
          simp only [Option.some.injEq, Addr.mk.injEq] at e1
          have := HG.out.1; omega
        · intro e; subst e
          obtain ⟨b, off, e1, e2, _⟩ := HF.out.2.1.cell hp0 hja.2.2
          simp only [Option.some.injEq, Addr.mk.injEq] at e1
          have := HG.out.1; omega
      have KS2 : Hid (∀ (w' : World) (z : Nat) (v : Value), (w'.cell? ⟨b1, o1 + j, none⟩ = some (.int .u64 x) ∧ w'.cell? ⟨b2, o2 + (k - j), none⟩ = some (.int .u64 y)) → ((w'.setCell ⟨G, z, none⟩ v).cell? ⟨b1, o1 + j, none⟩ = some (.int .u64 x) ∧ (w'.setCell ⟨G, z, none⟩ v).cell? ⟨b2, o2 + (k - j), none⟩ = some (.int .u64 y))) := fun w' z v h => ⟨by rw [setCell_ne (fun e => hbg.1 e.1)]; exact h.1, by rw [setCell_ne (fun e => hbg.2 e.1)]; exact h.2⟩
      clear hxe hye hcs hxy hb1 hb2 x0 x1 y0 y1 hbg
      have z0 : (0 : Int) ≤ (j : Int) := by omega
      have z1 : (j : Int) < (la : Int) := by omega
      have z2 : (j : Int) ≤ (i1 : Int) - 1 := by omega
      have z3 : IntKind.i64.wrap ((k : Int) - (j : Int)) = (k : Int) - (j : Int) := by rw [IntKind.wrap_i64]; omega
      have z4 : ((k : Int) - (j : Int)).toNat = k - j := by omega
      have z5 : (0 : Int) ≤ (k : Int) - (j : Int) := by omega
      have z6 : (k : Int) - (j : Int) < (lb : Int) := by omega
      have z7 : j ≤ k := hja.2.1
      clear hja
      go_wp2
      refine wp_region_noPanic ?_
      refine wp_region_held_drew (S := fun w' => (w'.cell? ⟨b1, o1 + j, none⟩ = some (.int .u64 x) ∧ w'.cell? ⟨b2, o2 + (k - j), none⟩ = some (.int .u64 y))) (by kernel_rfl) (by (try dsimp only); exact KS.out _ (Below.refl _ _).drew) (fun hHeld => ?_)
      refine wpAnyH_take (i := 1) (oi := Oper.mk (some 27) _ _ _ _ _) (v := ?_) rfl (by decide +kernel) (by decide +kernel) (by decide +kernel) (fun _ _ _ h => h) (Or.inl ⟨by rfl, ?_⟩) (by assumption) ?_
      rotate_left
      · (intro w hSw; (try dsimp only at hSw); go_simp <;> (try with_reducible rfl))
      (try simp only [Act.put, List.setIfInBounds_toArray, List.set_cons_zero, List.set_cons_succ])
      refine wpAnyH_take (i := 2) (oi := Oper.mk (some 28) _ _ _ _ _) (v := ?_) rfl (by decide +kernel) (by decide +kernel) (by decide +kernel) (fun _ _ _ h => h) (Or.inl ⟨by rfl, ?_⟩) (by assumption) ?_
      rotate_left
      · (intro w hSw; (try dsimp only at hSw); go_simp <;> (try with_reducible rfl))
      (try simp only [Act.put, List.setIfInBounds_toArray, List.set_cons_zero, List.set_cons_succ])
      refine wpAnyH_take (i := 3) (oi := Oper.mk (some 29) _ _ _ _ _) (v := ?_) rfl (by decide +kernel) (by decide +kernel) (by decide +kernel) (fun _ _ _ h => h) (Or.inl ⟨by rfl, ?_⟩) (by assumption) ?_
      rotate_left
      · (intro w hSw; (try dsimp only at hSw); go_simp <;> (try with_reducible rfl))
      (try simp only [Act.put, List.setIfInBounds_toArray, List.set_cons_zero, List.set_cons_succ])
      refine wpAnyH_take (i := 4) (oi := Oper.mk (some 30) _ _ _ _ _) (v := ?_) rfl (by decide +kernel) (by decide +kernel) (by decide +kernel) (fun _ _ _ h => h) (Or.inl ⟨by rfl, ?_⟩) (by assumption) ?_
      rotate_left
      · (intro w hSw; (try dsimp only at hSw); go_simp <;> (try with_reducible rfl))
      (try simp only [Act.put, List.setIfInBounds_toArray, List.set_cons_zero, List.set_cons_succ])
      refine wpAnyH_take (i := 5) (oi := Oper.mk (some 31) _ _ _ _ _) (v := ?_) rfl (by decide +kernel) (by decide +kernel) (by decide +kernel) (fun _ _ _ h => h) (Or.inl ⟨by rfl, ?_⟩) (by assumption) ?_
      rotate_left
      · (intro w hSw; (try dsimp only at hSw); go_simp <;> (try with_reducible rfl))
      (try simp only [Act.put, List.setIfInBounds_toArray, List.set_cons_zero, List.set_cons_succ])
      refine wpAnyH_take (i := 6) (oi := Oper.mk (some 32) _ _ _ _ _) (v := ?_) rfl (by decide +kernel) (by decide +kernel) (by decide +kernel) (fun _ _ _ h => h) (Or.inl ⟨by rfl, ?_⟩) (by assumption) ?_
      rotate_left
      · (intro w hSw; (try dsimp only at hSw); go_simp <;> (try with_reducible rfl))
      (try simp only [Act.put, List.setIfInBounds_toArray, List.set_cons_zero, List.set_cons_succ])
      refine wpAnyH_take (i := 7) (oi := Oper.mk (some 33) _ _ _ _ _) (v := ?_) rfl (by decide +kernel) (by decide +kernel) (by decide +kernel) (fun _ _ _ h => h) (Or.inl ⟨by rfl, ?_⟩) (by assumption) ?_
      rotate_left
      · (intro w hSw; (try dsimp only at hSw); go_simp <;> (try with_reducible rfl))
      (try simp only [Act.put, List.setIfInBounds_toArray, List.set_cons_zero, List.set_cons_succ])
      refine wpAnyH_take (i := 8) (oi := Oper.mk (some 34) _ _ _ _ _) (v := ?_) rfl (by decide +kernel) (by decide +kernel) (by decide +kernel) (fun _ _ _ h => h) (Or.inl ⟨by rfl, ?_⟩) (by assumption) ?_
      rotate_left
      · (intro w hSw; (try dsimp only at hSw); go_simp <;> (try with_reducible rfl))
      (try simp only [Act.put, List.setIfInBounds_toArray, List.set_cons_zero, List.set_cons_succ])
      refine wpAnyH_take (i := 9) (oi := Oper.mk (some 35) _ _ _ _ _) (v := ?_) rfl (by decide +kernel) (by decide +kernel) (by decide +kernel) (fun _ _ _ h => h) (Or.inl ⟨by rfl, ?_⟩) (by assumption) ?_
      rotate_left
      · (intro w hSw; (try dsimp only at hSw); go_simp <;> (try with_reducible rfl))
      (try simp only [Act.put, List.setIfInBounds_toArray, List.set_cons_zero, List.set_cons_succ])
      refine wpAnyH_take (i := 10) (oi := Oper.mk (some 36) _ _ _ _ _) (v := ?_) rfl (by decide +kernel) (by decide +kernel) (by decide +kernel) (fun _ _ _ h => h) (Or.inl ⟨by rfl, ?_⟩) (by assumption) ?_
      rotate_left
      · (intro w hSw; (try dsimp only at hSw); go_simp <;> (try with_reducible rfl))
      (try simp only [Act.put, List.setIfInBounds_toArray, List.set_cons_zero, List.set_cons_succ])
      refine wpAnyH_ready (rs := [0]) (by decide +kernel) (by simp) ?_
      refine AllReadyH.cons (o := Oper.mk (some 26) _ _ _ _ _) rfl (fun K hK => ?_) AllReadyH.nil
      go_simp
      clear hHeld
      refine hK.out _ _ (by (try dsimp only); exact KS.out _ (Below.refl _ _).drew) (fun hHeld => ?_)
      clear hK K
      (try simp only [Act.put, List.setIfInBounds_toArray, List.set_cons_zero, List.set_cons_succ])
      refine wpAnyH_ready (rs := [11]) (by decide +kernel) (by simp) ?_
      refine AllReadyH.cons (o := Oper.mk (some 37) _ _ _ _ _) rfl (fun K hK => ?_) AllReadyH.nil
      go_simp
      (go_at_call 37; refine (HCW.out _).mono ?_; rintro e w4 ⟨h', l', rfl, hh', hl', he', hb4'⟩; have hb4 : Below wr.heap.size wr w4 := bnext (Below.refl _ _).drew hb4'; clear hb4'; have HB4 : Hid (Blk w4 G .u64 69 [h, l] ∧ Below w.heap.size w w4 ∧ G < w4.heap.size) := (by have q := HS.out; exact ⟨q.1.later hb4 q.2.2.2.2.2, bnext q.2.2.2.2.1 hb4, Nat.lt_of_lt_of_le q.2.2.2.2.2 hb4.size⟩); have r0 := HB4.out.1.cell (j := 0) (by simp); have r1 := HB4.out.1.cell (j := 1) (by simp); have r2 := HB4.out.1.frozen; simp only [dig, List.getD_cons_zero, List.getD_cons_succ] at r0 r1; have HN : Hid ((0 ≤ h' ∧ h' < 18446744073709551616) ∧ (0 ≤ l' ∧ l' < 18446744073709551616) ∧ h' * 18446744073709551616 + l' = cs f g k (j + 1)) := ⟨hh', hl', he'.trans HE.out⟩; clear hh' hl' he')
      (try go_wp2_with fail)
      clear hHeld
      refine hK.out _ _ (by (try dsimp only); exact KS.out _ hb4) (fun hHeld => ?_)
      clear hK K
      (try simp only [Act.put, List.setIfInBounds_toArray, List.set_cons_zero, List.set_cons_succ])
      refine wpAnyH_ready (rs := [12]) (by decide +kernel) (by simp) ?_
      refine AllReadyH.cons (o := Oper.mk none _ _ _ _ _) rfl (fun K hK => ?_) AllReadyH.nil
      go_simp
      clear hHeld
      refine hK.out _ _ (by (try dsimp only); exact KS2.out _ _ _ (KS2.out _ _ _ (KS.out _ hb4))) (fun hHeld => ?_)
      clear hK K
      (try simp only [Act.put, List.setIfInBounds_toArray, List.set_cons_zero, List.set_cons_succ])
      refine wpAnyH_done (by decide +kernel) ?_ _
      refine NoPanic.normal ?_
      go_wp2
      go_roundw
      case rel => exact ⟨j + 1, h', l', by go_num, by omega, by omega, by have q := (HB4.out.1.set 0 h').set 1 l'; simpa using q, HN.out.1, HN.out.2.1, HN.out.2.2, (HB4.out.2.1.setCell (p := ⟨G, 0, none⟩) (by rw [HG.out.1]; exact Nat.le_refl _) _).setCell (p := ⟨G, 1, none⟩) (by rw [HG.out.1]; exact Nat.le_refl _) _, by have := HB4.out.2.2; simp; omega⟩
      case measure => simp [intOf]; omega
    · have HD : Hid ((h * 18446744073709551616 + l) % p = r) := by
        show _ = _
        rw [HS.out.2.2.2.1, cs_end (by rw [← HF.out.2.2.1]; have := HI.out; omega)]; exact HR.out
      have HP : Hid (0 < p ∧ p < 18446744073709551616) := ⟨hp0, by omega⟩
      have z2 : ¬ (j : Int) ≤ (i1 : Int) - 1 := by omega
      clear hj hij hjk
      go_wp2_with (go_at_call 38; refine (trest_any h l p r _ HS.out.2.1 HS.out.2.2.1 HP.out HD.out).mono ?_; rintro e w4 ⟨rfl, hb4⟩)
      go_ret
      exact ⟨rfl, bnext HS.out.2.2.2.2.1 hb4⟩
end Go.Proofs.YtpannkjjggelhaaDoor
