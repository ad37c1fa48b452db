/-
  HG, HH.
-/
import Derived.Test.YtnniipekcbjloaaDoorPU18
/- Walks: the page's NDivide. -/
namespace Go.Proofs.YtnniipekcbjloaaDoor
open Go.RowKit
set_option linter.unusedVariables false
set_option linter.unusedSimpArgs false
theorem val_set (q : Int) : (L : List Int) → (j : Nat) → (z : Int) → j < L.length → val q (L.set j z) = val q L + q ^ j * (z - dig L j)
  | [], j, z, h => by simp at h
  | x :: r, 0, z, h => by simp [val, dig]; omega
  | x :: r, j + 1, z, h => by
    have ih := val_set q r j z (by simpa using h)
    have e : dig (x :: r) (j + 1) = dig r j := by simp [dig]
    simp only [List.set_cons_succ, val, ih, e, Int.pow_succ]
    grind
theorem val_drop (q : Int) : (L : List Int) → (j : Nat) → j < L.length → val q (L.drop j) = dig L j + q * val q (L.drop (j + 1))
  | [], j, h => by simp at h
  | x :: r, 0, h => by simp [val, dig]
  | x :: r, j + 1, h => by
    have ih := val_drop q r j (by simpa using h)
    simp only [List.drop_succ_cons]
    rw [ih]; simp [dig]
theorem limb_dvd {L : List Int} {k : Nat} (hW : Wd 18446744073709551616 L) (hj : k / 64 < L.length) (hd : (2 : Int) ^ (k + 1) ∣ val 18446744073709551616 L) : (2 : Int) ^ (k % 64 + 1) ∣ dig L (k / 64) := by
  have e1 := val_take_drop 18446744073709551616 L (k / 64) (by omega)
  have h3 := val_lt (q := 18446744073709551616) (by decide) (hW.take (k / 64))
  have h4 := val_nonneg (q := 18446744073709551616) (by decide) (hW.take (k / 64))
  rw [List.length_take, Nat.min_eq_left (by omega)] at h3
  have e2 := val_drop 18446744073709551616 L (k / 64) hj
  have e3 : (2 : Int) ^ (k + 1) = 18446744073709551616 ^ (k / 64) * 2 ^ (k % 64 + 1) := by
    rw [show (18446744073709551616 : Int) = 2 ^ 64 from rfl, ← Int.pow_mul, ← Int.pow_add]
    congr 1; omega
  have e4 : (18446744073709551616 : Int) = 2 ^ (k % 64 + 1) * 2 ^ (63 - k % 64) := by
    rw [← Int.pow_add, show k % 64 + 1 + (63 - k % 64) = 64 by omega]; rfl
  obtain ⟨P, hP⟩ : ∃ P : Int, (18446744073709551616 : Int) ^ (k / 64) = P := ⟨_, rfl⟩
  obtain ⟨M, hM⟩ : ∃ M : Int, (2 : Int) ^ (k % 64 + 1) = M := ⟨_, rfl⟩
  obtain ⟨T, hT⟩ : ∃ T, val 18446744073709551616 (L.take (k / 64)) = T := ⟨_, rfl⟩
  obtain ⟨R, hR⟩ : ∃ R, val 18446744073709551616 (L.drop (k / 64 + 1)) = R := ⟨_, rfl⟩
  obtain ⟨D, hD⟩ : ∃ D, dig L (k / 64) = D := ⟨_, rfl⟩
  have hP0 : 0 < P := by rw [← hP]; exact Int.pow_pos (by decide)
  rw [hM] at e3 e4 ⊢
  rw [hP] at e1 e3 h3
  rw [hT] at e1 h3 h4
  rw [hD, hR] at e2
  rw [e2] at e1
  rw [hD]
  rw [e3, e1] at hd
  have hPT : P ∣ T := by
    have h1 : P ∣ T + P * (D + 18446744073709551616 * R) := Int.dvd_trans ⟨M, rfl⟩ hd
    exact (Int.dvd_add_left ⟨_, rfl⟩).1 h1
  have hT0 : T = 0 := by have h6 := Int.emod_eq_zero_of_dvd hPT; rw [Int.emod_eq_of_lt h4 h3] at h6; exact h6
  rw [hT0, Int.zero_add] at hd
  have h5 : M ∣ D + 18446744073709551616 * R := Int.dvd_of_mul_dvd_mul_left (by omega) hd
  refine (Int.dvd_add_left ?_).1 h5
  rw [e4]; exact ⟨2 ^ (63 - k % 64) * R, by grind⟩
theorem bit_limb {L : List Int} {k j s : Nat} (hW : Wd 18446744073709551616 L) (hk : k / 64 = j) (hs : k % 64 = s) (hj : j < L.length) (hd : (2 : Int) ^ (k + 1) ∣ val 18446744073709551616 L) :
    ∃ c, bits .or .u64 (dig L j) (2 ^ s) = c ∧ Wd 18446744073709551616 (L.set j c) ∧ val 18446744073709551616 (L.set j c) = val 18446744073709551616 L + 2 ^ k := by
  subst hk hs
  have h1 := limb_dvd hW hj hd
  have hb := hW.dig (by decide) (k / 64)
  have e3 : (2 : Int) ^ k = 18446744073709551616 ^ (k / 64) * 2 ^ (k % 64) := by
    rw [show (18446744073709551616 : Int) = 2 ^ 64 from rfl, ← Int.pow_mul, ← Int.pow_add]
    congr 1; omega
  have hs64 : k % 64 < 64 := Nat.mod_lt _ (by decide)
  obtain ⟨s, hs⟩ : ∃ s, k % 64 = s := ⟨_, rfl⟩
  obtain ⟨D, hD⟩ : ∃ D, dig L (k / 64) = D := ⟨_, rfl⟩
  rw [hs] at h1 hs64 e3 ⊢
  rw [hD] at h1 hb ⊢
  obtain ⟨D, rfl⟩ := Int.eq_ofNat_of_zero_le hb.1
  obtain ⟨c, hc⟩ := h1
  have hpp : (2 : Int) ^ (s + 1) = ((2 ^ (s + 1) : Nat) : Int) := by rw [Int.natCast_pow]; rfl
  have hp : (2 : Int) ^ s = ((2 ^ s : Nat) : Int) := by rw [Int.natCast_pow]; rfl
  have hM0 : 0 < 2 ^ s := Nat.pow_pos (by decide)
  have hM : 2 ^ (s + 1) = 2 * 2 ^ s := by rw [Nat.pow_succ]; omega
  have e4 : 18446744073709551616 = 2 ^ s * 2 * 2 ^ (63 - s) := by
    rw [show 2 ^ s * 2 = 2 ^ (s + 1) from rfl, ← Nat.pow_add, show s + 1 + (63 - s) = 64 by omega]
  obtain ⟨M, hMe⟩ : ∃ M, 2 ^ s = M := ⟨_, rfl⟩
  obtain ⟨N, hNe⟩ : ∃ N, 2 ^ (63 - s) = N := ⟨_, rfl⟩
  rw [hpp, hM, hMe] at hc
  rw [hMe, hNe] at e4
  rw [hMe] at hM0 hM
  have hc0 : 0 ≤ c := by
    by_cases h : 0 ≤ c
    · exact h
    · have : ((2 * M : Nat) : Int) * c < 0 := Int.mul_neg_of_pos_of_neg (by omega) (by omega)
      omega
  obtain ⟨c, rfl⟩ := Int.eq_ofNat_of_zero_le hc0
  have hcn : D = c * (2 * M) := by
    have : (D : Int) = ((c * (2 * M) : Nat) : Int) := by rw [hc, Int.natCast_mul c, Int.mul_comm]
    exact Int.ofNat_inj.1 this
  have hcN : c < N := by
    have : c * (2 * M) < N * (2 * M) := by
      rw [← hcn]
      have h5 : N * (2 * M) = 18446744073709551616 := by rw [e4]; grind
      rw [h5]; omega
    exact Nat.lt_of_mul_lt_mul_right this
  have hsum : D + M < 18446744073709551616 := by
    have h5 : (c + 1) * (2 * M) ≤ N * (2 * M) := Nat.mul_le_mul_right _ hcN
    have h6 : N * (2 * M) = 18446744073709551616 := by rw [e4]; grind
    rw [h6, Nat.add_mul] at h5
    omega
  have hor : bits .or .u64 (D : Int) ((2 : Int) ^ s) = ((D + M : Nat) : Int) := by
    rw [hp, hMe, bits_or_u64_nat _ _ (by omega) (by omega), hcn]
    congr 1
    rw [← hM]
    exact or_low rfl (by omega)
  refine ⟨_, hor, hW.set _ (by omega), ?_⟩
  rw [val_set _ _ _ _ hj, hD, e3, hp, hMe]
  congr 2
  omega
/-- a is Q b and rv; L makes Q; what is left to find is below 2^k -/
structure NDivSt (a b k Q rv m : Nat) (L : List Int) : Prop where
  eq : a = Q * b + rv
  lt : rv < b * 2 ^ k
  dvd : (2 : Int) ^ k ∣ val 18446744073709551616 L
  len : L.length = m
  wd : Wd 18446744073709551616 L
  vl : val 18446744073709551616 L = (Q : Int)
theorem NDivSt.start {a b k m : Nat} (h : a < b * 2 ^ k) : NDivSt a b k 0 a m (List.replicate m 0) :=
  ⟨by omega, h, by rw [zeros_val]; exact ⟨0, by simp⟩, by simp, wd_zeros (by decide) _, by rw [zeros_val]; rfl⟩
theorem NDivSt.no {a b k Q rv m : Nat} {L : List Int} (h : NDivSt a b (k + 1) Q rv m L) (hlt : rv < b * 2 ^ k) : NDivSt a b k Q rv m L :=
  ⟨h.eq, hlt, Int.dvd_trans ⟨2, by rw [Int.pow_succ]⟩ h.dvd, h.len, h.wd, h.vl⟩
theorem NDivSt.yes {a b k Q rv m j s : Nat} {L : List Int} (h : NDivSt a b (k + 1) Q rv m L) (hge : b * 2 ^ k ≤ rv) (hk : k / 64 = j) (hs : k % 64 = s) (hj : j < m) :
    ∃ c, bits .or .u64 (dig L j) (2 ^ s) = c ∧ NDivSt a b k (Q + 2 ^ k) (rv - b * 2 ^ k) m (L.set j c) := by
  obtain ⟨c, h1, h2, h3⟩ := bit_limb h.wd hk hs (by rw [h.len]; exact hj) h.dvd
  have hl := h.lt
  rw [Nat.pow_succ] at hl
  refine ⟨c, h1, ⟨?_, ?_, ?_, by simp [h.len], h2, ?_⟩⟩
  · have := h.eq; rw [Nat.add_mul, Nat.mul_comm (2 ^ k) b]; omega
  · have : b * (2 ^ k * 2) = b * 2 ^ k + b * 2 ^ k := by grind
    omega
  · rw [h3]; exact Int.dvd_add (Int.dvd_trans ⟨2, by rw [Int.pow_succ]⟩ h.dvd) (Int.dvd_refl _)
  · rw [h3, h.vl, Int.natCast_add, Int.natCast_pow]; rfl
theorem NDivSt.done {a b Q rv m : Nat} {L : List Int} (h : NDivSt a b 0 Q rv m L) : Q = a / b ∧ rv = a % b := by
  have hl := h.lt
  rw [Nat.pow_zero, Nat.mul_one] at hl
  have he := h.eq
  rw [he, Nat.mul_comm, Nat.mul_add_div (by omega), Nat.mul_add_mod, Nat.div_eq_of_lt hl, Nat.mod_eq_of_lt hl]
  exact ⟨rfl, rfl⟩
/-- a row that does not lie in block g -/
def Off (g : Nat) (w : World) (ao : Option Addr) (len cap n : Nat) : Prop := RowAt w .u64 ao len cap (mag n) ∧ ∀ b o, ao = some ⟨b, o, none⟩ → b ≠ g
theorem Off.later {g : Nat} {w w' : World} {ao : Option Addr} {len cap n : Nat} (h : Off g w ao len cap n) (hb : Below w.heap.size w w') : Off g w' ao len cap n := ⟨h.1.later hb, h.2⟩
theorem Off.set {g : Nat} {w : World} {ao : Option Addr} {len cap n : Nat} (h : Off g w ao len cap n) (j : Nat) (v : Value) : Off g (w.setCell ⟨g, j, none⟩ v) ao len cap n := by
  refine ⟨⟨h.1.hlen, h.1.hcap, h.1.hnil, ?_⟩, h.2⟩
  rcases h.1.hat with h0 | ⟨b, off, h1, hlt, h2⟩
  · exact Or.inl h0
  · have hne := h.2 b off h1
    exact Or.inr ⟨b, off, h1, by simpa using hlt, fun t ht => by rw [← h2 t ht]; simp only [World.cell?, Below.heap_setCell w ⟨g, j, none⟩ v b hne]⟩
theorem Off.ofOwn {g B : Nat} {w : World} {ao : Option Addr} {len cap n : Nat} (h : Own B w .u64 25 ao len cap (mag n)) (hB : g < B) : Off g w ao len cap n := by
  refine ⟨h.row, fun b o hb => ?_⟩
  rcases h with ⟨h1, _⟩ | ⟨g', off, cur, h1, h2, _⟩
  · rw [h1] at hb; cases hb
  · rw [h1] at hb; cases hb; omega
theorem Off.old {g : Nat} {w : World} {ao : Option Addr} {len cap n : Nat} (h : RowAt w .u64 ao len cap (mag n)) (hg : w.heap.size ≤ g) (h0 : 0 < n) : Off g w ao len cap n := by
  refine ⟨h, fun b o hb => ?_⟩
  obtain ⟨b', o', h1, h2, _⟩ := h.get (by rw [h.hlen]; exact mag_len_pos.2 h0)
  rw [h1] at hb; cases hb; omega
/-- two rows, in whatever memory -/
def TwoRows (w w' : World) (e : Ending) (q r : Nat) : Prop :=
  ∃ qo lq cq ro lr cr, e = .returned (.tuple #[.slice qo lq cq, .slice ro lr cr]) ∧ RowAt w' .u64 qo lq cq (mag q) ∧ RowAt w' .u64 ro lr cr (mag r) ∧ Below w.heap.size w w'
theorem nof_at (n : Nat) (v : Int) (w : World) (hv : v = (n : Int)) (hn : n < 18446744073709551616) :
    Calls Tryd.prog 67 #[.int .u64 v] w fun e w' => NewNat w w' e n := by
  subst hv; exact nof_any n w hn
theorem down2_one (ao : Option Addr) (la ca : Nat) (a : Nat) (w : World) (hx : RowAt w .u64 ao la ca (mag a)) (hl : la ≤ 4294967296) :
    Calls Tryd.prog 95 #[.slice ao la ca, .int .i64 1] w fun e w' => NewNat w w' e (a / 2) := by
  have h := down2_any ao la ca 1 a w hx hl (by decide)
  rw [Nat.pow_one] at h; exact h
set_option maxRecDepth 100000 in
set_option maxHeartbeats 1000000 in
theorem ndivide_short (ao bo : Option Addr) (la ca lb cb : Nat) (a b : Nat) (w : World) (hx : RowAt w .u64 ao la ca (mag a)) (hy : RowAt w .u64 bo lb cb (mag b)) (hl : la ≤ 16777216) (hl' : lb ≤ 16777216) (h1 : (half b).length = 1) :
    Calls Tryd.prog 78 #[.slice ao la ca, .slice bo lb cb] w fun e w' => TwoRows w w' e (a / b) (a % b) := by
  have HX : Hid (RowAt w .u64 ao la ca (mag a) ∧ RowAt w .u64 bo lb cb (mag b)) := ⟨hx, hy⟩
  have HD : Hid (dig (half b) 0 = (b : Int) ∧ 0 < b ∧ b < 4294967296) := by
    have hv := half_val b
    have hb := (half_wd b).dig (q := 4294967296) (by decide) 0
    have hp : 0 < b := by
      by_cases e : b = 0
      · subst e; rw [show half 0 = [] from half_of (Wd.nil _) Can.nil rfl] at h1; simp at h1
      · omega
    obtain ⟨x, hx⟩ := List.length_eq_one_iff.1 h1
    rw [hx] at hv hb
    have e1 : dig [x] 0 = x := rfl
    have e2 : val 4294967296 [x] = x := by simp [val]
    rw [e1] at hb; rw [e2] at hv
    show _ ∧ _
    rw [hx, e1]
    omega
  have HL : Hid ((half a).length ≤ 2 * la) := half_len_le hx.hlen
  have HL2 : Hid ((half (a / b)).length ≤ 2 * la) := Nat.le_trans (half_len_le rfl) (by have := mag_len_mono (Nat.div_le_self a b); have := hx.hlen; omega)
  have hh1 : Hid ((half b).length = 1) := h1
  clear hx hy h1
  go_enter Tryd.func78, Tryd.ntmps78
  go_wp2_with (go_at_call 88; refine (halves_any bo lb cb (mag b) _ HX.out.2 (mag_wd b) (by omega) b (mag_val b)).mono ?_; rintro e w1 ⟨⟨yo, ly, cy, rfl, hY⟩, hb1⟩; obtain rfl : ly = 1 := (by rw [hY.hlen]; exact hh1.out))
  obtain ⟨yb, yoff, rfl, hyb, hyc⟩ := hY.get (by omega)
  have hc0 := hyc 0 (by omega)
  rw [HD.out.1] at hc0
  rw [Nat.add_zero] at hc0
  have KS : Hid (∀ w' : World, Below w1.heap.size w1 w' → (Below w1.heap.size w1 w' ∧ w'.cell? ⟨yb, yoff, none⟩ = some (.int .u32 b) ∧ yb < w'.heap.size)) := fun w' h => ⟨h, (h.cell (p := ⟨yb, yoff, none⟩) hyb).trans hc0, Nat.lt_of_lt_of_le hyb h.size⟩
  have K1 : Hid (∀ w2 w3 : World, (Below w1.heap.size w1 w2 ∧ w2.cell? ⟨yb, yoff, none⟩ = some (.int .u32 b) ∧ yb < w2.heap.size) → Below w2.heap.size w2 w3 → (Below w1.heap.size w1 w3 ∧ w3.cell? ⟨yb, yoff, none⟩ = some (.int .u32 b) ∧ yb < w3.heap.size)) := fun w2 w3 h hb => KS.out _ (bnext h.1 hb)
  clear hyc hc0 hY
  go_region_held3 (fun w' => Below w1.heap.size w1 w' ∧ w'.cell? ⟨yb, yoff, none⟩ = some (.int .u32 b) ∧ yb < w'.heap.size)
    (first
      | exact KS.out _ (Below.refl _ _).drew
      | exact K1.out _ _ (by assumption) (by assumption))
    (first
      | (go_at_call 88; refine (halves_any ao la ca (mag a) _ (HX.out.1.later (hb1.trans ((Below.refl _ _).drew.mono hb1.size))) (mag_wd a) (by omega) a (mag_val a)).mono ?_; rintro e w2 ⟨⟨xo, lx, cx, rfl, hX⟩, hb2⟩; have hlx : lx ≤ 2 * la := (by rw [hX.hlen]; exact HL.out))
      | (go_at_call 89; refine (short_any xo lx cx (half a) (b : Int) a _ hX (half_wd a) (half_val a) (by omega) (by have := HD.out; omega) (by have := HD.out; omega)).mono ?_; rintro e w3 ⟨⟨qo, lq, cq, rfl, hQ⟩, hb3⟩; rw [Int.toNat_natCast] at hQ; have hlq : lq ≤ 2 * la := (by rw [hQ.hlen]; exact HL2.out)))
  go_wp2_with (first
    | (go_at_call 90; refine (whole_any qo lq cq (half (a / b)) _ hQ (half_wd _) (by omega) (a / b) (half_val _)).mono ?_; rintro e w4 ⟨q4, l4, c4, rfl, hq4, hb4⟩)
    | (go_at_call 67; refine (nof_at (a % b) _ _ (by rw [Int.natCast_emod, IntKind.wrap_u64]; have h1 := HD.out; have h2 := Int.emod_lt_of_pos (a : Int) (b := (b : Int)) (by omega); have h3 := Int.emod_nonneg (a : Int) (b := (b : Int)) (by omega); omega) (Nat.lt_of_lt_of_le (Nat.mod_lt _ HD.out.2.1) (by have := HD.out; omega))).mono ?_; rintro e w5 ⟨r5, l5, c5, rfl, hr5, hb5⟩))
  go_ret2
  exact ⟨_, _, _, _, _, _, rfl, (hq4.later hb5).row, hr5.row, bnext hb1 (bnext (bnext (bnext (Below.refl _ _).drew hb2) hb3) (bnext hb4 hb5))⟩
theorem two_len {x l la : Nat} (h : x < 2 ^ l) (hl : l ≤ 64 * la) : (mag x).length ≤ la := by
  refine mag_len_le ?_
  have h1 : 2 ^ l ≤ 2 ^ (64 * la) := Nat.pow_le_pow_right (by decide) hl
  have h2 : ((2 ^ (64 * la) : Nat) : Int) = 18446744073709551616 ^ la := by rw [Nat.pow_mul, Int.natCast_pow]; rfl
  rw [← h2]; omega
theorem wrap_two {s : Nat} (hs : s < 64) : IntKind.u64.wrap (2 ^ s) = 2 ^ s := by
  have h1 : (2 : Int) ^ s ≤ 2 ^ 63 := pow_mono' (by decide) (by omega)
  have h2 : (0 : Int) < 2 ^ s := Int.pow_pos (by decide)
  have h3 : (2 : Int) ^ 63 = 9223372036854775808 := rfl
  rw [IntKind.wrap_u64]; omega
theorem half_two (b k : Nat) : b * 2 ^ (k + 1) / 2 = b * 2 ^ k := by rw [Nat.pow_succ, ← Nat.mul_assoc]; omega
set_option maxRecDepth 100000 in
set_option maxHeartbeats 1000000 in
theorem ndivide_less (ao bo : Option Addr) (la ca lb cb : Nat) (a b : Nat) (w : World) (hx : RowAt w .u64 ao la ca (mag a)) (hy : RowAt w .u64 bo lb cb (mag b)) (hl : la ≤ 16777216) (hl' : lb ≤ 16777216) (h1 : (half b).length ≠ 1) (B1 B2 : Int) (hB1 : rowBits la (dig (mag a) (la - 1)) = B1) (hB2 : rowBits lb (dig (mag b) (lb - 1)) = B2) (g1 : 0 ≤ B1 ∧ B1 ≤ 1073741824) (g2 : 0 ≤ B2 ∧ B2 ≤ 1073741824) (hlt : B1 < B2) (hab : a < b) :
    Calls Tryd.prog 78 #[.slice ao la ca, .slice bo lb cb] w fun e w' => TwoRows w w' e (a / b) (a % b) := by
  have HX : Hid (RowAt w .u64 ao la ca (mag a) ∧ RowAt w .u64 bo lb cb (mag b)) := ⟨hx, hy⟩
  have hh1 : Hid ((half b).length ≠ 1) := h1
  have HB1 : Hid (rowBits la (dig (mag a) (la - 1)) = B1) := hB1
  have HB2 : Hid (rowBits lb (dig (mag b) (lb - 1)) = B2) := hB2
  have HE : Hid (a / b = 0 ∧ a % b = a) := ⟨Nat.div_eq_of_lt hab, Nat.mod_eq_of_lt hab⟩
  have HM : Hid (mag 0 = []) := mag_of (Wd.nil _) Can.nil rfl
  obtain ⟨g1a, g1b⟩ := g1
  obtain ⟨g2a, g2b⟩ := g2
  clear hx hy h1 hB1 hB2
  go_enter Tryd.func78, Tryd.ntmps78
  go_wp2_with (first
    | (go_at_call 88; refine (halves_any bo lb cb (mag b) _ HX.out.2 (mag_wd b) (by omega) b (mag_val b)).mono ?_; rintro e w1 ⟨⟨yo, ly, cy, rfl, hY⟩, hb1⟩; have hly : ¬ (ly : Int) = 1 := (by intro h; exact hh1.out (by rw [← hY.hlen]; omega)); clear hY)
    | (go_at_call_of 91 ao; refine (nlen_any ao la ca (mag a) _ (HX.out.1.later hb1) (mag_wd a) (by omega)).mono ?_; rintro e w2 ⟨rfl, hw2⟩; replace hw2 := hw2.symm; subst hw2; rw [HB1.out])
    | (go_at_call 91; refine (nlen_any bo lb cb (mag b) _ (HX.out.2.later hb1) (mag_wd b) (by omega)).mono ?_; rintro e w3 ⟨rfl, hw3⟩; replace hw3 := hw3.symm; subst hw3; rw [HB2.out]))
  go_ret2
  exact ⟨_, _, _, _, _, _, rfl, by rw [HE.out.1, HM.out]; exact RowAt.nilRow _ _, by rw [HE.out.2]; exact HX.out.1.later hb1, hb1⟩
set_option maxRecDepth 100000 in
set_option maxHeartbeats 3000000 in
theorem ndivide_long (ao bo : Option Addr) (la ca lb cb : Nat) (a b : Nat) (w : World) (hx : RowAt w .u64 ao la ca (mag a)) (hy : RowAt w .u64 bo lb cb (mag b)) (hl : la ≤ 16777216) (hl' : lb ≤ 16777216) (h1 : (half b).length ≠ 1) (B1 B2 : Int) (hB1 : rowBits la (dig (mag a) (la - 1)) = B1) (hB2 : rowBits lb (dig (mag b) (lb - 1)) = B2) (g1 : 0 ≤ B1 ∧ B1 ≤ 1073741824) (g2 : 0 ≤ B2 ∧ B2 ≤ 1073741824) (n : Nat) (hn : B1 - B2 = (n : Int)) (ha : a < b * 2 ^ (n + 1)) (ha0 : 0 < a) (hlen : ∀ k, k ≤ n → (mag (b * 2 ^ k)).length ≤ la + 1) :
    Calls Tryd.prog 78 #[.slice ao la ca, .slice bo lb cb] w fun e w' => TwoRows w w' e (a / b) (a % b) := by
  obtain ⟨i0, hi, hz0, hz1, hz2⟩ := info_parts info64
  have HX : Hid (RowAt w .u64 ao la ca (mag a) ∧ RowAt w .u64 bo lb cb (mag b)) := ⟨hx, hy⟩
  have hh1 : Hid ((half b).length ≠ 1) := h1
  have HB1 : Hid (rowBits la (dig (mag a) (la - 1)) = B1) := hB1
  have HB2 : Hid (rowBits lb (dig (mag b) (lb - 1)) = B2) := hB2
  have HA : Hid (a < b * 2 ^ (n + 1) ∧ 0 < a ∧ ∀ k, k ≤ n → (mag (b * 2 ^ k)).length ≤ la + 1) := ⟨ha, ha0, hlen⟩
  obtain ⟨g1a, g1b⟩ := g1
  obtain ⟨g2a, g2b⟩ := g2
  have hdiv : (n : Int).tdiv 64 = ((n / 64 : Nat) : Int) := by rw [Int.tdiv_eq_ediv_of_nonneg (by omega)]; omega
  obtain ⟨m, hm⟩ : ∃ m, n / 64 = m := ⟨_, rfl⟩
  have hm2 : m ≤ 16777216 := by omega
  have HMN : Hid (n / 64 = m) := hm
  rw [hm] at hdiv
  have hn0 : ¬ (n : Int) < 0 := by omega
  have b1 : Hid (i0.bytes * (m + 1) ≤ 281474976710656) := by show _ ≤ _; rw [hz2]; omega
  have b2 : Hid (m + 1 ≤ maxLen) := by show _ ≤ _; unfold maxLen; omega
  have hnb : n ≤ 1073741824 := by omega
  clear hx hy h1 hB1 hB2 ha ha0 hlen hm
  go_enter Tryd.func78, Tryd.ntmps78
  go_wp2_with (first
    | (go_at_call 88; refine (halves_any bo lb cb (mag b) _ HX.out.2 (mag_wd b) (by omega) b (mag_val b)).mono ?_; rintro e w1 ⟨⟨yo, ly, cy, rfl, hY⟩, hb1⟩; have hly : ¬ (ly : Int) = 1 := (by intro h; exact hh1.out (by rw [← hY.hlen]; omega)); clear hY)
    | (go_at_call_of 91 ao; refine (nlen_any ao la ca (mag a) _ (HX.out.1.later hb1) (mag_wd a) (by omega)).mono ?_; rintro e w2 ⟨rfl, hw2⟩; replace hw2 := hw2.symm; subst hw2; rw [HB1.out])
    | (go_at_call 91; refine (nlen_any bo lb cb (mag b) _ (HX.out.2.later hb1) (mag_wd b) (by omega)).mono ?_; rintro e w3 ⟨rfl, hw3⟩; replace hw3 := hw3.symm; subst hw3; rw [HB2.out])
    | (at_make; refine wpList_make_full _ rfl (.tmp 43) (.tmp 43) 63 rfl w1.heap.size 25 i0 (.int .u64 0) 1 Tryd.underlying63 hi hz0 hz1 .i64 .i64 _ _ (m + 1) rfl rfl rfl rfl b1.out b2.out (Nat.le_refl _) ?_; intro w4 hown4 hgrow4; have HQ : Hid (Blk w4 w1.heap.size .u64 25 (List.replicate (m + 1) 0) ∧ Below w1.heap.size w1 w4) := ⟨made_blk hown4, grown_below hgrow4⟩; clear hown4 hgrow4)
    | (go_at_call 92; refine (up2_any bo lb cb n b _ (HX.out.2.later (bnext hb1 HQ.out.2)) (by omega) (by omega)).mono ?_; rintro e w5 ⟨d0, ld0, cd0, rfl, hD0, hb5⟩; have HD0 : Hid (Own w4.heap.size w5 .u64 25 d0 ld0 cd0 (mag (b * 2 ^ n)) ∧ Below w4.heap.size w4 w5) := ⟨hD0, hb5⟩; clear hD0 hb5))
  have HB5 : Hid (Below w.heap.size w w5 ∧ w1.heap.size < w4.heap.size ∧ w4.heap.size ≤ w5.heap.size) := ⟨bnext (bnext hb1 HQ.out.2) HD0.out.2, HQ.out.1.lt, HD0.out.2.size⟩
  go_loopw [11, 12, 13] (fun r d i wr => ∃ (k Q rv : Nat) (L : List Int) (ro : Option Addr) (lr cr : Nat) (dd : Option Addr) (ld cd : Nat), k ≤ n + 1 ∧ i = .int .i64 ((k : Int) - 1) ∧ r = .slice ro lr cr ∧ d = .slice dd ld cd ∧ NDivSt a b k Q rv (m + 1) L ∧ Off w1.heap.size wr ro lr cr rv ∧ Off w1.heap.size wr dd ld cd (b * 2 ^ k / 2) ∧ Blk wr w1.heap.size .u64 25 L ∧ Below w.heap.size w wr) (fun _ _ i _ => (intOf i + 1).toNat)
  case atStart => exact ⟨n + 1, 0, a, List.replicate (m + 1) 0, ao, la, ca, d0, ld0, cd0, Nat.le_refl _, by go_num, rfl, rfl, NDivSt.start HA.out.1, (Off.old (HX.out.1.later hb1) (Nat.le_refl _) HA.out.2.1).later (bnext HQ.out.2 HD0.out.2), by rw [half_two]; exact Off.ofOwn HD0.out.1 HB5.out.2.1, HQ.out.1.later HD0.out.2 HB5.out.2.1, HB5.out.1⟩
  case round =>
    obtain ⟨k, Q, rv, L, ro, lr, cr, dd, ld, cd, hk, rfl, rfl, rfl, hst, hro, hdo, hbl, hbel⟩ := hrel
    have HS : Hid (NDivSt a b k Q rv (m + 1) L ∧ Off w1.heap.size wr ro lr cr rv ∧ Off w1.heap.size wr dd ld cd (b * 2 ^ k / 2) ∧ Blk wr w1.heap.size .u64 25 L ∧ Below w.heap.size w wr) := ⟨hst, hro, hdo, hbl, hbel⟩
    have hgs : w1.heap.size < wr.heap.size := hbl.lt
    have hlr : lr ≤ la := by
      rw [hro.1.hlen]
      have h1 : rv ≤ a := by have := hst.eq; omega
      have h2 := mag_len_mono h1
      have h3 := HX.out.1.hlen
      omega
    rcases k with _ | k
    · have HV : Hid (Q = a / b ∧ rv = a % b) := hst.done
      have hll : m + 1 = L.length := hst.len.symm
      have HLL : Hid (m + 1 = L.length) := hll
      clear hst hro hdo hbl hbel hll
      go_wp2_with (go_at_call 82; refine (ntrim_any (some ⟨w1.heap.size, 0, none⟩) (m + 1) (m + 1) L _ (Own.whole (B := 0) HS.out.2.2.2.1 (Nat.zero_le _) HLL.out).row (by omega)).mono ?_; rintro e w4 ⟨hT, hw4⟩; replace hw4 := hw4.symm; subst hw4; have HT : Hid (Trimmed wr .u64 (some ⟨w1.heap.size, 0, none⟩) (m + 1) (m + 1) L e) := hT; obtain ⟨ao', n', cap', hn', rfl, hrest⟩ := hT)
      go_ret2
      obtain ⟨q9, l9, c9, e9, ho9, hb9⟩ := Trimmed.natOwn HT.out (Own.whole (B := w.heap.size) HS.out.2.2.2.1 hb1.size HLL.out) HS.out.1.wd HS.out.1.vl HS.out.2.2.2.2
      cases e9
      exact ⟨_, _, _, _, _, _, rfl, by rw [← HV.out.1]; exact ho9.row, by rw [← HV.out.2]; exact HS.out.2.1.1, HS.out.2.2.2.2⟩
    · have hc1 : ((k + 1 : Nat) : Int) - 1 = (k : Int) := by omega
      rw [hc1]
      have hkn : k ≤ n := by omega
      have hdo2 : Off w1.heap.size wr dd ld cd (b * 2 ^ k) := half_two b k ▸ hdo
      have hld : ld ≤ la + 1 := by rw [hdo2.1.hlen]; exact HA.out.2.2 k hkn
      have HO : Hid (Off w1.heap.size wr dd ld cd (b * 2 ^ k)) := hdo2
      obtain ⟨c, hc⟩ : ∃ c, cmpI ((rv : Nat) : Int) ((b * 2 ^ k : Nat) : Int) = c := ⟨_, rfl⟩
      have HC : Hid (cmpI ((rv : Nat) : Int) ((b * 2 ^ k : Nat) : Int) = c) := hc
      by_cases hge : b * 2 ^ k ≤ rv
      · have hc0 : 0 ≤ c := by rw [← hc]; unfold cmpI; split; omega; split <;> omega
        have hdk : (k : Int).tdiv 64 = ((k / 64 : Nat) : Int) := by rw [Int.tdiv_eq_ediv_of_nonneg (by omega)]; omega
        have hmk : (k : Int).tmod 64 = ((k % 64 : Nat) : Int) := by rw [Int.tmod_eq_emod_of_nonneg (by omega)]; omega
        obtain ⟨j, hj⟩ : ∃ j, k / 64 = j := ⟨_, rfl⟩
        obtain ⟨s, hs⟩ : ∃ s, k % 64 = s := ⟨_, rfl⟩
        have hjm : j < m + 1 := by have := HMN.out; omega
        have hs64 : s < 64 := by omega
        obtain ⟨x, hor, hn⟩ := hst.yes hge hj hs hjm
        have HN : Hid (NDivSt a b k (Q + 2 ^ k) (rv - b * 2 ^ k) (m + 1) (L.set j x)) := hn
        rw [hj] at hdk; rw [hs] at hmk
        have hcz0 := hbl.cell (j := j) (by rw [hst.len]; exact hjm)
        obtain ⟨z, hz⟩ : ∃ z, dig L j = z := ⟨_, rfl⟩
        rw [hz] at hcz0 hor
        have hor2 : bits .or .u64 z (IntKind.u64.wrap (2 ^ s)) = x := by rw [wrap_two hs64]; exact hor
        have hfz0 := hbl.frozen j
        have hle : Hid (b * 2 ^ k ≤ rv) := hge
        clear hst hro hdo hdo2 hbl hc hge hj hs hn hz hor
        go_wp2_with (first
          | (go_at_call 93; refine (ncmp_at ro dd lr cr ld cd rv (b * 2 ^ k) _ HS.out.2.1.1 HO.out.1 (by omega) (by omega) c HC.out).mono ?_; rintro e w2 ⟨rfl, hb2⟩)
          | (go_at_call 94; refine (nless_any ro dd lr cr ld cd rv (b * 2 ^ k) _ (HS.out.2.1.1.later hb2) (HO.out.1.later hb2) (by omega) (by omega) hle.out).mono ?_; rintro e w3 ⟨r3, l3, c3, rfl, ho3, hb3⟩; have hcz := (hb3.cell (p := ⟨w1.heap.size, j, none⟩) (by have := hb2.size; show w1.heap.size < _; omega)).trans ((hb2.cell (p := ⟨w1.heap.size, j, none⟩) hgs).trans hcz0); have hfz := (hb3.frozen (p := ⟨w1.heap.size, j, none⟩) (by have := hb2.size; show w1.heap.size < _; omega)).trans ((hb2.frozen (p := ⟨w1.heap.size, j, none⟩) hgs).trans hfz0); have hgs3 : w1.heap.size < w3.heap.size := (by have := hb2.size; have := hb3.size; omega))
          | (go_at_call 95; refine (down2_one dd ld cd (b * 2 ^ k) _ ((HO.out.later (bnext hb2 hb3)).set j _).1 (by omega)).mono ?_; rintro e w6 ⟨d6, l6, c6, rfl, ho6, hb6⟩))
        have hs6 : (w3.setCell ⟨w1.heap.size, j, none⟩ (.int .u64 x)).heap.size = w3.heap.size := by simp
        rw [hs6] at ho6 hb6
        go_roundw
        case rel => exact ⟨k, _, _, _, _, _, _, _, _, _, by omega, by go_num, rfl, rfl, HN.out, ((Off.ofOwn ho3 (by have := hb2.size; omega)).set j _).later (hs6 ▸ hb6), Off.ofOwn ho6 hgs3, (((HS.out.2.2.2.1.later hb2 hgs).later hb3 (by have := hb2.size; omega)).set _ _).later hb6 hgs3, ((HS.out.2.2.2.2.trans ((bnext hb2 hb3).mono HS.out.2.2.2.2.size)).setCell (p := ⟨w1.heap.size, j, none⟩) hb1.size _).trans (hb6.mono (by have := HS.out.2.2.2.2.size; have := hb2.size; have := hb3.size; omega))⟩
        case measure => simp [intOf]
      · have hc0 : ¬ 0 ≤ c := by rw [← hc]; unfold cmpI; rw [if_pos (by omega)]; omega
        have HN : Hid (NDivSt a b k Q rv (m + 1) L) := hst.no (by omega)
        clear hst hro hdo hdo2 hbl hc hge
        go_wp2_with (first
          | (go_at_call 93; refine (ncmp_at ro dd lr cr ld cd rv (b * 2 ^ k) _ HS.out.2.1.1 HO.out.1 (by omega) (by omega) c HC.out).mono ?_; rintro e w2 ⟨rfl, hb2⟩)
          | (go_at_call 95; refine (down2_one dd ld cd (b * 2 ^ k) _ (HO.out.later hb2).1 (by omega)).mono ?_; rintro e w6 ⟨d6, l6, c6, rfl, ho6, hb6⟩))
        have hgs2 : w1.heap.size < w2.heap.size := by have := hb2.size; omega
        go_roundw
        case rel => exact ⟨k, _, _, _, _, _, _, _, _, _, by omega, by go_num, rfl, rfl, HN.out, HS.out.2.1.later (bnext hb2 hb6), Off.ofOwn ho6 hgs2, HS.out.2.2.2.1.later (bnext hb2 hb6) hgs, HS.out.2.2.2.2.trans ((bnext hb2 hb6).mono HS.out.2.2.2.2.size)⟩
        case measure => simp [intOf]
end Go.Proofs.YtnniipekcbjloaaDoor
/- Walks: the page's NDivide whole, NGcd, Gcd. -/
namespace Go.Proofs.YtnniipekcbjloaaDoor
open Go.RowKit
set_option linter.unusedVariables false
set_option linter.unusedSimpArgs false
theorem ndivide_any (ao bo : Option Addr) (la ca lb cb : Nat) (a b : Nat) (w : World) (hx : RowAt w .u64 ao la ca (mag a)) (hy : RowAt w .u64 bo lb cb (mag b)) (hl : la ≤ 16777216) (hl' : lb ≤ 16777216) (hb : 0 < b) :
    Calls Tryd.prog 78 #[.slice ao la ca, .slice bo lb cb] w fun e w' => TwoRows w w' e (a / b) (a % b) := by
  by_cases h1 : (half b).length = 1
  · exact ndivide_short ao bo la ca lb cb a b w hx hy hl hl' h1
  · obtain ⟨l2, e2, p2, q2, m2, n2⟩ := row_bits hb hy.hlen
    by_cases h0 : 0 < a
    · obtain ⟨l1, e1, p1, q1, m1, n1⟩ := row_bits h0 hx.hlen
      by_cases hlt : l1 < l2
      · have hab : a < b := by
          have h3 : 2 ^ l1 ≤ 2 ^ (l2 - 1) := Nat.pow_le_pow_right (by decide) (by omega)
          omega
        exact ndivide_less ao bo la ca lb cb a b w hx hy hl hl' h1 _ _ e1 e2 (by omega) (by omega) (by omega) hab
      · have hbk : ∀ k, k ≤ l1 - l2 → b * 2 ^ k < 2 ^ l1 := fun k hk => by
          have h3 : b * 2 ^ k < 2 ^ l2 * 2 ^ k := Nat.mul_lt_mul_of_pos_right n2 (Nat.pow_pos (by decide))
          rw [← Nat.pow_add] at h3
          exact Nat.lt_of_lt_of_le h3 (Nat.pow_le_pow_right (by decide) (by omega))
        have ha : a < b * 2 ^ (l1 - l2 + 1) := by
          have h3 : 2 ^ (l2 - 1) * 2 ^ (l1 - l2 + 1) ≤ b * 2 ^ (l1 - l2 + 1) := Nat.mul_le_mul_right _ m2
          rw [← Nat.pow_add, show l2 - 1 + (l1 - l2 + 1) = l1 by omega] at h3
          omega
        exact ndivide_long ao bo la ca lb cb a b w hx hy hl hl' h1 _ _ e1 e2 (by omega) (by omega) (l1 - l2) (by omega) ha h0 (fun k hk => Nat.le_succ_of_le (two_len (hbk k hk) q1))
    · obtain rfl : a = 0 := by omega
      have hl0 : la = 0 := by
        by_cases h : 0 < la
        · have := mag_len_pos.1 (hx.hlen ▸ h); omega
        · omega
      have e1 : rowBits la (dig (mag 0) (la - 1)) = 0 := by unfold rowBits; rw [if_pos hl0]
      exact ndivide_less ao bo la ca lb cb 0 b w hx hy hl hl' h1 _ _ e1 e2 (by omega) (by omega) (by omega) hb
end Go.Proofs.YtnniipekcbjloaaDoor
/-
  Variables that hold numbers: what a store leaves.
-/
namespace Go.Proofs.YtnniipekcbjloaaDoor
open Go.RowKit
set_option linter.unusedVariables false
set_option linter.unusedSimpArgs false
theorem cell_far {w : World} {r j b o : Nat} {v : Value} (h : b ≠ r) : (w.setCell ⟨r, j, none⟩ v).cell? ⟨b, o, none⟩ = w.cell? ⟨b, o, none⟩ := by
  simp only [World.cell?, Below.heap_setCell w ⟨r, j, none⟩ v b h]
/-- two numbers, in whatever memory -/
def TwoRef (w w' : World) (e : Ending) (q r : Int) : Prop :=
  ∃ n1 ao1 l1 c1 n2 ao2 l2 c2, e = .returned (.tuple #[.agg #[.bool n1, .slice ao1 l1 c1], .agg #[.bool n2, .slice ao2 l2 c2]]) ∧ IntAt w' n1 ao1 l1 c1 q ∧ IntAt w' n2 ao2 l2 c2 r ∧ Below w.heap.size w w'
theorem floor_rest {a b q r : Int} (h : FloorOf a b q r) : FloorOf a b q (a - q * b) := by
  have e : a - q * b = r := by have := h.1; rw [Int.mul_comm] at this; omega
  rw [e]; exact h
theorem RowAt.boxed {w : World} {k : IntKind} {ao : Option Addr} {len cap r : Nat} {zs : List Int} {n : Bool} {so : Option Addr} {l c : Nat} (h : RowAt w k ao len cap zs) (hf : Boxed w r n so l c) (x y : Value) : RowAt ((w.setCell ⟨r, 0, none⟩ x).setCell ⟨r, 1, none⟩ y) k ao len cap zs := by
  refine ⟨h.hlen, h.hcap, h.hnil, ?_⟩
  rcases h.hat with h0 | ⟨b, off, h1, hlt, h2⟩
  · exact Or.inl h0
  · refine Or.inr ⟨b, off, h1, by simpa [World.setCell] using hlt, fun t ht => ?_⟩
    have hc := h2 t ht
    rw [setCell_ne, setCell_ne]
    · exact hc
    · rintro ⟨e1, e2⟩
      simp only at e1 e2
      rw [e1, e2, hf.1] at hc; cases hc
    · rintro ⟨e1, e2⟩
      simp only at e1 e2
      rw [e1, e2, hf.2] at hc; cases hc
theorem boxed_far {w : World} {r s : Nat} {n : Bool} {so : Option Addr} {l c : Nat} (h : Boxed w r n so l c) (hs : r ≠ s) (x y : Value) : Boxed ((w.setCell ⟨s, 0, none⟩ x).setCell ⟨s, 1, none⟩ y) r n so l c :=
  ⟨by rw [cell_far hs, cell_far hs]; exact h.1, by rw [cell_far hs, cell_far hs]; exact h.2⟩
theorem frozen_far {w : World} {r j b o : Nat} {v : Value} : (w.setCell ⟨r, j, none⟩ v).frozen? ⟨b, o, none⟩ = w.frozen? ⟨b, o, none⟩ := by simp [go_sem]
theorem fresh_far {w : World} {r s : Nat} (h : Fresh w r) (hs : r ≠ s) (x y : Value) : Fresh ((w.setCell ⟨s, 0, none⟩ x).setCell ⟨s, 1, none⟩ y) r :=
  ⟨fun j => by rw [frozen_far, frozen_far]; exact h.1 j, by rw [cell_far hs, cell_far hs]; exact h.2.1, by rw [cell_far hs, cell_far hs]; exact h.2.2⟩
theorem boxed_new {w : World} {r : Nat} {n m : Bool} {so tp : Option Addr} {l c l' c' : Nat} (h : Boxed w r n so l c) : Boxed ((w.setCell ⟨r, 0, none⟩ (.bool m)).setCell ⟨r, 1, none⟩ (.slice tp l' c')) r m tp l' c' :=
  ⟨by simp [go_sem, h.1, h.2], by simp [go_sem, h.1, h.2]⟩
end Go.Proofs.YtnniipekcbjloaaDoor
