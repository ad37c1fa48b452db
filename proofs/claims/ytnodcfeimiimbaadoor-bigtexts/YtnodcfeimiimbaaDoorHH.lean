/-
  HG, HH.
-/
import Derived.Test.YtnodcfeimiimbaaDoorHE

/- Walks: the page's NDivide. -/
namespace Go.Proofs.YtnodcfeimiimbaaDoor
open Go.RowKit
set_option linter.unusedVariables false
set_option linter.unusedSimpArgs false

theorem val_set (q : Int) : (L : List Int) → (j : Nat) → (z : Int) → j < L.length → val q (L.set j z) = val q L + q ^ j * (z - dig L j)
  | [], j, z, h => by simp at h
  | x :: r, 0, z, h => by simp [val, dig]; omega
  | x :: r, j + 1, z, h => by
    have ih := val_set q r j z (by simpa using h)
    have e : dig (x :: r) (j + 1) = dig r j := by simp [dig]
    simp only [List.set_cons_succ, val, ih, e, Int.pow_succ]
    grind
theorem val_drop (q : Int) : (L : List Int) → (j : Nat) → j < L.length → val q (L.drop j) = dig L j + q * val q (L.drop (j + 1))
  | [], j, h => by simp at h
  | x :: r, 0, h => by simp [val, dig]
  | x :: r, j + 1, h => by
    have ih := val_drop q r j (by simpa using h)
    simp only [List.drop_succ_cons]
    rw [ih]; simp [dig]
theorem limb_dvd {L : List Int} {k : Nat} (hW : Wd 18446744073709551616 L) (hj : k / 64 < L.length) (hd : (2 : Int) ^ (k + 1) ∣ val 18446744073709551616 L) : (2 : Int) ^ (k % 64 + 1) ∣ dig L (k / 64) := by
  have e1 := val_take_drop 18446744073709551616 L (k / 64) (by omega)
  have h3 := val_lt (q := 18446744073709551616) (by decide) (hW.take (k / 64))
  have h4 := val_nonneg (q := 18446744073709551616) (by decide) (hW.take (k / 64))
  rw [List.length_take, Nat.min_eq_left (by omega)] at h3
  have e2 := val_drop 18446744073709551616 L (k / 64) hj
  have e3 : (2 : Int) ^ (k + 1) = 18446744073709551616 ^ (k / 64) * 2 ^ (k % 64 + 1) := by
    rw [show (18446744073709551616 : Int) = 2 ^ 64 from rfl, ← Int.pow_mul, ← Int.pow_add]
    congr 1; omega
  have e4 : (18446744073709551616 : Int) = 2 ^ (k % 64 + 1) * 2 ^ (63 - k % 64) := by
    rw [← Int.pow_add, show k % 64 + 1 + (63 - k % 64) = 64 by omega]; rfl
  obtain ⟨P, hP⟩ : ∃ P : Int, (18446744073709551616 : Int) ^ (k / 64) = P := ⟨_, rfl⟩
  obtain ⟨M, hM⟩ : ∃ M : Int, (2 : Int) ^ (k % 64 + 1) = M := ⟨_, rfl⟩
  obtain ⟨T, hT⟩ : ∃ T, val 18446744073709551616 (L.take (k / 64)) = T := ⟨_, rfl⟩
  obtain ⟨R, hR⟩ : ∃ R, val 18446744073709551616 (L.drop (k / 64 + 1)) = R := ⟨_, rfl⟩
  obtain ⟨D, hD⟩ : ∃ D, dig L (k / 64) = D := ⟨_, rfl⟩
  have hP0 : 0 < P := by rw [← hP]; exact Int.pow_pos (by decide)
  rw [hM] at e3 e4 ⊢
  rw [hP] at e1 e3 h3
  rw [hT] at e1 h3 h4
  rw [hD, hR] at e2
  rw [e2] at e1
  rw [hD]
  rw [e3, e1] at hd
  have hPT : P ∣ T := by
    have h1 : P ∣ T + P * (D + 18446744073709551616 * R) := Int.dvd_trans ⟨M, rfl⟩ hd
    exact (Int.dvd_add_left ⟨_, rfl⟩).1 h1
  have hT0 : T = 0 := by have h6 := Int.emod_eq_zero_of_dvd hPT; rw [Int.emod_eq_of_lt h4 h3] at h6; exact h6
  rw [hT0, Int.zero_add] at hd
  have h5 : M ∣ D + 18446744073709551616 * R := Int.dvd_of_mul_dvd_mul_left (by omega) hd
  refine (Int.dvd_add_left ?_).1 h5
  rw [e4]; exact ⟨2 ^ (63 - k % 64) * R, by grind⟩
theorem bit_limb {L : List Int} {k j s : Nat} (hW : Wd 18446744073709551616 L) (hk : k / 64 = j) (hs : k % 64 = s) (hj : j < L.length) (hd : (2 : Int) ^ (k + 1) ∣ val 18446744073709551616 L) :
    ∃ c, bits .or .u64 (dig L j) (2 ^ s) = c ∧ Wd 18446744073709551616 (L.set j c) ∧ val 18446744073709551616 (L.set j c) = val 18446744073709551616 L + 2 ^ k := by
  subst hk hs
  have h1 := limb_dvd hW hj hd
  have hb := hW.dig (by decide) (k / 64)
  have e3 : (2 : Int) ^ k = 18446744073709551616 ^ (k / 64) * 2 ^ (k % 64) := by
    rw [show (18446744073709551616 : Int) = 2 ^ 64 from rfl, ← Int.pow_mul, ← Int.pow_add]
    congr 1; omega
  have hs64 : k % 64 < 64 := Nat.mod_lt _ (by decide)
  obtain ⟨s, hs⟩ : ∃ s, k % 64 = s := ⟨_, rfl⟩
  obtain ⟨D, hD⟩ : ∃ D, dig L (k / 64) = D := ⟨_, rfl⟩
  rw [hs] at h1 hs64 e3 ⊢
  rw [hD] at h1 hb ⊢
  obtain ⟨D, rfl⟩ := Int.eq_ofNat_of_zero_le hb.1
  obtain ⟨c, hc⟩ := h1
  have hpp : (2 : Int) ^ (s + 1) = ((2 ^ (s + 1) : Nat) : Int) := by rw [Int.natCast_pow]; rfl
  have hp : (2 : Int) ^ s = ((2 ^ s : Nat) : Int) := by rw [Int.natCast_pow]; rfl
  have hM0 : 0 < 2 ^ s := Nat.pow_pos (by decide)
  have hM : 2 ^ (s + 1) = 2 * 2 ^ s := by rw [Nat.pow_succ]; omega
  have e4 : 18446744073709551616 = 2 ^ s * 2 * 2 ^ (63 - s) := by
    rw [show 2 ^ s * 2 = 2 ^ (s + 1) from rfl, ← Nat.pow_add, show s + 1 + (63 - s) = 64 by omega]
  obtain ⟨M, hMe⟩ : ∃ M, 2 ^ s = M := ⟨_, rfl⟩
  obtain ⟨N, hNe⟩ : ∃ N, 2 ^ (63 - s) = N := ⟨_, rfl⟩
  rw [hpp, hM, hMe] at hc
  rw [hMe, hNe] at e4
  rw [hMe] at hM0 hM
  have hc0 : 0 ≤ c := by
    by_cases h : 0 ≤ c
    · exact h
    · have : ((2 * M : Nat) : Int) * c < 0 := Int.mul_neg_of_pos_of_neg (by omega) (by omega)
      omega
  obtain ⟨c, rfl⟩ := Int.eq_ofNat_of_zero_le hc0
  have hcn : D = c * (2 * M) := by
    have : (D : Int) = ((c * (2 * M) : Nat) : Int) := by rw [hc, Int.natCast_mul c, Int.mul_comm]
    exact Int.ofNat_inj.1 this
  have hcN : c < N := by
    have : c * (2 * M) < N * (2 * M) := by
      rw [← hcn]
      have h5 : N * (2 * M) = 18446744073709551616 := by rw [e4]; grind
      rw [h5]; omega
    exact Nat.lt_of_mul_lt_mul_right this
  have hsum : D + M < 18446744073709551616 := by
    have h5 : (c + 1) * (2 * M) ≤ N * (2 * M) := Nat.mul_le_mul_right _ hcN
    have h6 : N * (2 * M) = 18446744073709551616 := by rw [e4]; grind
    rw [h6, Nat.add_mul] at h5
    omega
  have hor : bits .or .u64 (D : Int) ((2 : Int) ^ s) = ((D + M : Nat) : Int) := by
    rw [hp, hMe, bits_or_u64_nat _ _ (by omega) (by omega), hcn]
    congr 1
    rw [← hM]
    exact or_low rfl (by omega)
  refine ⟨_, hor, hW.set _ (by omega), ?_⟩
  rw [val_set _ _ _ _ hj, hD, e3, hp, hMe]
  congr 2
  omega

/-- a is Q b and rv; L makes Q; what is left to find is below 2^k -/
structure NDivSt (a b k Q rv m : Nat) (L : List Int) : Prop where
  eq : a = Q * b + rv
  lt : rv < b * 2 ^ k
  dvd : (2 : Int) ^ k ∣ val 18446744073709551616 L
  len : L.length = m
  wd : Wd 18446744073709551616 L
  vl : val 18446744073709551616 L = (Q : Int)
theorem NDivSt.start {a b k m : Nat} (h : a < b * 2 ^ k) : NDivSt a b k 0 a m (List.replicate m 0) :=
  ⟨by omega, h, by rw [zeros_val]; exact ⟨0, by simp⟩, by simp, wd_zeros (by decide) _, by rw [zeros_val]; rfl⟩
theorem NDivSt.no {a b k Q rv m : Nat} {L : List Int} (h : NDivSt a b (k + 1) Q rv m L) (hlt : rv < b * 2 ^ k) : NDivSt a b k Q rv m L :=
  ⟨h.eq, hlt, Int.dvd_trans ⟨2, by rw [Int.pow_succ]⟩ h.dvd, h.len, h.wd, h.vl⟩
theorem NDivSt.yes {a b k Q rv m j s : Nat} {L : List Int} (h : NDivSt a b (k + 1) Q rv m L) (hge : b * 2 ^ k ≤ rv) (hk : k / 64 = j) (hs : k % 64 = s) (hj : j < m) :
    ∃ c, bits .or .u64 (dig L j) (2 ^ s) = c ∧ NDivSt a b k (Q + 2 ^ k) (rv - b * 2 ^ k) m (L.set j c) := by
  obtain ⟨c, h1, h2, h3⟩ := bit_limb h.wd hk hs (by rw [h.len]; exact hj) h.dvd
  have hl := h.lt
  rw [Nat.pow_succ] at hl
  refine ⟨c, h1, ⟨?_, ?_, ?_, by simp [h.len], h2, ?_⟩⟩
  · have := h.eq; rw [Nat.add_mul, Nat.mul_comm (2 ^ k) b]; omega
  · have : b * (2 ^ k * 2) = b * 2 ^ k + b * 2 ^ k := by grind
    omega
  · rw [h3]; exact Int.dvd_add (Int.dvd_trans ⟨2, by rw [Int.pow_succ]⟩ h.dvd) (Int.dvd_refl _)
  · rw [h3, h.vl, Int.natCast_add, Int.natCast_pow]; rfl
theorem NDivSt.done {a b Q rv m : Nat} {L : List Int} (h : NDivSt a b 0 Q rv m L) : Q = a / b ∧ rv = a % b := by
  have hl := h.lt
  rw [Nat.pow_zero, Nat.mul_one] at hl
  have he := h.eq
  rw [he, Nat.mul_comm, Nat.mul_add_div (by omega), Nat.mul_add_mod, Nat.div_eq_of_lt hl, Nat.mod_eq_of_lt hl]
  exact ⟨rfl, rfl⟩

/-- a row that does not lie in block g -/
def Off (g : Nat) (w : World) (ao : Option Addr) (len cap n : Nat) : Prop := RowAt w .u64 ao len cap (mag n) ∧ ∀ b o, ao = some ⟨b, o, none⟩ → b ≠ g
theorem Off.later {g : Nat} {w w' : World} {ao : Option Addr} {len cap n : Nat} (h : Off g w ao len cap n) (hb : Below w.heap.size w w') : Off g w' ao len cap n := ⟨h.1.later hb, h.2⟩
theorem Off.set {g : Nat} {w : World} {ao : Option Addr} {len cap n : Nat} (h : Off g w ao len cap n) (j : Nat) (v : Value) : Off g (w.setCell ⟨g, j, none⟩ v) ao len cap n := by
  refine ⟨⟨h.1.hlen, h.1.hcap, h.1.hnil, ?_⟩, h.2⟩
  rcases h.1.hat with h0 | ⟨b, off, h1, hlt, h2⟩
  · exact Or.inl h0
  · have hne := h.2 b off h1
    exact Or.inr ⟨b, off, h1, by simpa using hlt, fun t ht => by rw [← h2 t ht]; simp only [World.cell?, Below.heap_setCell w ⟨g, j, none⟩ v b hne]⟩
theorem Off.ofOwn {g B : Nat} {w : World} {ao : Option Addr} {len cap n : Nat} (h : Own B w .u64 54 ao len cap (mag n)) (hB : g < B) : Off g w ao len cap n := by
  refine ⟨h.row, fun b o hb => ?_⟩
  rcases h with ⟨h1, _⟩ | ⟨g', off, cur, h1, h2, _⟩
  · rw [h1] at hb; cases hb
  · rw [h1] at hb; cases hb; omega
theorem Off.old {g : Nat} {w : World} {ao : Option Addr} {len cap n : Nat} (h : RowAt w .u64 ao len cap (mag n)) (hg : w.heap.size ≤ g) (h0 : 0 < n) : Off g w ao len cap n := by
  refine ⟨h, fun b o hb => ?_⟩
  obtain ⟨b', o', h1, h2, _⟩ := h.get (by rw [h.hlen]; exact mag_len_pos.2 h0)
  rw [h1] at hb; cases hb; omega

/-- two rows, in whatever memory -/
def TwoRows (w w' : World) (e : Ending) (q r : Nat) : Prop :=
  ∃ qo lq cq ro lr cr, e = .returned (.tuple #[.slice qo lq cq, .slice ro lr cr]) ∧ RowAt w' .u64 qo lq cq (mag q) ∧ RowAt w' .u64 ro lr cr (mag r) ∧ Below w.heap.size w w'

theorem nof_at (n : Nat) (v : Int) (w : World) (hv : v = (n : Int)) (hn : n < 18446744073709551616) :
    Calls Tryd.prog 38 #[.int .u64 v] w fun e w' => NewNat w w' e n := by
  subst hv; exact nof_any n w hn
theorem two_len {x l la : Nat} (h : x < 2 ^ l) (hl : l ≤ 64 * la) : (mag x).length ≤ la := by
  refine mag_len_le ?_
  have h1 : 2 ^ l ≤ 2 ^ (64 * la) := Nat.pow_le_pow_right (by decide) hl
  have h2 : ((2 ^ (64 * la) : Nat) : Int) = 18446744073709551616 ^ la := by rw [Nat.pow_mul, Int.natCast_pow]; rfl
  rw [← h2]; omega
theorem wrap_two {s : Nat} (hs : s < 64) : IntKind.u64.wrap (2 ^ s) = 2 ^ s := by
  have h1 : (2 : Int) ^ s ≤ 2 ^ 63 := pow_mono' (by decide) (by omega)
  have h2 : (0 : Int) < 2 ^ s := Int.pow_pos (by decide)
  have h3 : (2 : Int) ^ 63 = 9223372036854775808 := rfl
  rw [IntKind.wrap_u64]; omega
theorem half_two (b k : Nat) : b * 2 ^ (k + 1) / 2 = b * 2 ^ k := by rw [Nat.pow_succ, ← Nat.mul_assoc]; omega

end Go.Proofs.YtnodcfeimiimbaaDoor

/- Walks: the page's NDivide whole, NGcd, Gcd. -/
namespace Go.Proofs.YtnodcfeimiimbaaDoor
open Go.RowKit
set_option linter.unusedVariables false
set_option linter.unusedSimpArgs false

end Go.Proofs.YtnodcfeimiimbaaDoor
