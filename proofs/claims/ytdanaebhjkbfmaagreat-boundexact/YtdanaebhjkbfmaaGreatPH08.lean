/-
  ER, ES.
-/
import Derived.Test.YtdanaebhjkbfmaaGreatPH05
import Derived.Test.YtdanaebhjkbfmaaGreatPH07
import Derived.Deep.RegionHeld3
/- EP, EQ, ER. -/
namespace Go.Proofs.YtdanaebhjkbfmaaGreat
open Go.RowKit Go.Shelf
set_option linter.unusedVariables false
set_option linter.unusedSimpArgs false
theorem sgn_scale {neg : Bool} {v : Int} (h : neg = sgB v) (k : Nat) : v * (k : Int) = sgn neg (v.natAbs * k) := by
  have h1 := sgn_of h
  unfold sgn at h1 ⊢
  rw [Int.natCast_mul]
  cases neg
  · simp at h1 ⊢; rw [h1]
  · simp at h1 ⊢; rw [← Int.neg_mul, h1]
theorem mag_len_two (n : Nat) : (mag (2 ^ n)).length ≤ n + 1 := by
  induction n with
  | zero => rw [Nat.pow_zero]; have := mag_len_one (n := 1) (by decide); omega
  | succ n ih =>
    rw [Nat.pow_succ, Nat.mul_two]
    have h1 : 2 ^ n + 2 ^ n = 2 ^ (n + 1) := by rw [Nat.pow_succ, Nat.mul_two]
    rw [h1]
    have h2 := mag_len_le (n := 2 ^ (n + 1)) (k := n + 2) (by
      rw [Int.natCast_pow]
      have e : ((2 : Nat) : Int) ^ (n + 1) ≤ (18446744073709551616 : Int) ^ (n + 1) := by
        rw [show (18446744073709551616 : Int) = 2 ^ 64 from rfl, ← Int.pow_mul]
        exact pow_mono' (by decide) (by omega)
      have e2 : (18446744073709551616 : Int) ^ (n + 2) = 18446744073709551616 ^ (n + 1) * 18446744073709551616 := Int.pow_succ _ _
      have e3 : (0 : Int) < 18446744073709551616 ^ (n + 1) := Int.pow_pos (by decide)
      rw [e2]; omega)
    omega
set_option maxRecDepth 100000 in
set_option maxHeartbeats 1000000 in
theorem bleft_any (neg : Bool) (ao : Option Addr) (len cap n : Nat) (v : Int) (w : World) (hx : IntAt w neg ao len cap v) (hl : len ≤ 4294967296) (hn : n ≤ 65536) :
    Calls Tryz.prog 70 #[.agg #[.bool neg, .slice ao len cap], .int .i64 (n : Int)] w fun e w' => NewIntErr w w' e (v * ((2 ^ n : Nat) : Int)) := by
  obtain ⟨W, hT⟩ := One2.mk' w neg ao len cap
  have hsz := hT.size
  have hR := hx.later hT.below
  have hM : Hid ((if mayB neg (mag v.natAbs) then 0 else 10 : Int) = 0) := hx.may
  have HE : Hid (v * ((2 ^ n : Nat) : Int) = sgn neg (v.natAbs * 2 ^ n)) := sgn_scale hx.sg _
  clear hx
  have KS : Hid (∀ w' : World, Below (w.heap.size + 1) W w' → (Below (w.heap.size + 1) W w' ∧ w'.cell? ⟨w.heap.size, 0, none⟩ = some (.bool neg) ∧ w'.cell? ⟨w.heap.size, 1, none⟩ = some (.slice ao len cap))) := fun w' h => ⟨h, (h.cell (p := ⟨w.heap.size, 0, none⟩) (by show w.heap.size < _; omega)).trans hT.a.1, (h.cell (p := ⟨w.heap.size, 1, none⟩) (by show w.heap.size < _; omega)).trans hT.a.2⟩
  have K1 : Hid (∀ w1 w2 : World, (Below (w.heap.size + 1) W w1 ∧ w1.cell? ⟨w.heap.size, 0, none⟩ = some (.bool neg) ∧ w1.cell? ⟨w.heap.size, 1, none⟩ = some (.slice ao len cap)) → Below w1.heap.size w1 w2 → (Below (w.heap.size + 1) W w2 ∧ w2.cell? ⟨w.heap.size, 0, none⟩ = some (.bool neg) ∧ w2.cell? ⟨w.heap.size, 1, none⟩ = some (.slice ao len cap))) := fun w1 w2 h hb => KS.out _ (h.1.trans (hb.mono (by have := h.1.size; omega)))
  have K2 : Hid (∀ w1 w2 : World, (Below (w.heap.size + 1) W w1 ∧ w1.cell? ⟨w.heap.size, 0, none⟩ = some (.bool neg) ∧ w1.cell? ⟨w.heap.size, 1, none⟩ = some (.slice ao len cap)) → Below (w.heap.size + 1) w1 w2 → (Below (w.heap.size + 1) W w2 ∧ w2.cell? ⟨w.heap.size, 0, none⟩ = some (.bool neg) ∧ w2.cell? ⟨w.heap.size, 1, none⟩ = some (.slice ao len cap))) := fun w1 w2 h hb => KS.out _ (h.1.trans hb)
  go_enter Tryz.func70, Tryz.ntmps70
  go_wp2_with (go_at_call 62; rw [← hT.eq]; refine (check_at neg ao len cap _ _ hR.row (by omega) 0 hM.out).mono ?_; rintro e w1 ⟨rfl, hb1⟩; have hs1 := hb1.size)
  have hbX : Below (w.heap.size + 1) W w1 := hb1.mono (by omega)
  go_region_held3 (fun w' => Below (w.heap.size + 1) W w' ∧ w'.cell? ⟨w.heap.size, 0, none⟩ = some (.bool neg) ∧ w'.cell? ⟨w.heap.size, 1, none⟩ = some (.slice ao len cap))
    (first
      | exact KS.out _ hbX.drew
      | exact K1.out _ _ (by assumption) (by assumption)
      | exact K2.out _ _ (by assumption) (below_store (Below.refl _ _) (by omega) _ _))
    (first
      | (go_at_call 94; refine (shiftUp_any ao len cap n v.natAbs _ (hR.row.later hb1.drew) hl (by omega)).mono ?_; rintro e w2 ⟨ao2, l2, c2, rfl, ho2, hb2⟩; have hlen2 : l2 ≤ 4611686018427387904 := (by rw [ho2.row.hlen]; have q1 := mag_len_mul v.natAbs (2 ^ n); have q2 := mag_len_two n; rw [← hR.row.hlen] at q1; omega))
      | (go_at_call 92; refine (signed_any neg ao2 l2 c2 _ hlen2).mono ?_; rintro e w3 ⟨rfl, hb3⟩; obtain ⟨g5, g3, g4⟩ := hT.r.later (bnext hb1.drew (bnext hb2 hb3)) (by omega)))
  go_wp2
  exact bodyPost_ret (v := .tuple #[.agg #[.bool (neg && decide (0 < l2)), .slice ao2 l2 c2], .int .i64 0]) (by simp [results, Tryz.results70, go_sem, g3, g4]) rfl
    (NewInt.ret ((ho2.later hb3).store (by show _ < w1.heap.size; omega) _ _) (by show _ ≤ w1.heap.size; omega) HE.out (below_store (bnext hT.below (bnext hb1.drew (bnext hb2 hb3))) (by omega) _ _)).err
end Go.Proofs.YtdanaebhjkbfmaaGreat
/- Walks: lowBitsSet. -/
namespace Go.Proofs.YtdanaebhjkbfmaaGreat
open Go.RowKit Go.Shelf
set_option linter.unusedVariables false
set_option linter.unusedSimpArgs false
theorem low_split {a j : Nat} (hj : j < (mag a).length) : ∃ c x e : Nat, V 18446744073709551616 (mag a) 0 j = (c : Int) ∧ c < 18446744073709551616 ^ j ∧ dig (mag a) j = (x : Int) ∧ x < 18446744073709551616 ∧ a = c + 18446744073709551616 ^ j * (x + 18446744073709551616 * e) := by
  have hv := mag_val a
  obtain ⟨m, hm⟩ : ∃ m, (mag a).length = j + (m + 1) := ⟨(mag a).length - j - 1, by omega⟩
  rw [← V_all 18446744073709551616 rfl, hm, V_split, Nat.zero_add, V_cons] at hv
  have h1 := V_nonneg (q := 18446744073709551616) (by decide) (mag_wd a) 0 j
  have h2 := V_lt (q := 18446744073709551616) (by decide) (mag_wd a) 0 j
  have h3 := (mag_wd a).dig (by decide) j
  have h4 := V_nonneg (q := 18446744073709551616) (by decide) (mag_wd a) (j + 1) m
  obtain ⟨c, hc⟩ := Int.eq_ofNat_of_zero_le h1
  obtain ⟨x, hx⟩ := Int.eq_ofNat_of_zero_le h3.1
  obtain ⟨e, he⟩ := Int.eq_ofNat_of_zero_le h4
  rw [hc, hx, he] at hv
  rw [hc] at h2
  rw [hx] at h3
  refine ⟨c, x, e, hc, ?_, hx, by omega, ?_⟩
  · have : ((18446744073709551616 ^ j : Nat) : Int) = (18446744073709551616 : Int) ^ j := by rw [Int.natCast_pow]; rfl
    omega
  · have : (a : Int) = ((c + 18446744073709551616 ^ j * (x + 18446744073709551616 * e) : Nat) : Int) := by
      rw [← hv, Int.natCast_add, Int.natCast_mul, Int.natCast_pow, Int.natCast_add, Int.natCast_mul]; rfl
    exact Int.ofNat.inj this
theorem pow_parts (n : Nat) : 2 ^ n = 18446744073709551616 ^ (n / 64) * 2 ^ (n % 64) := by
  rw [show 18446744073709551616 = 2 ^ 64 from rfl, ← Nat.pow_mul, ← Nat.pow_add]
  congr 1; omega
theorem low_b {a n t : Nat} (hj : n / 64 < (mag a).length) (ht : t < n / 64) (h : dig (mag a) t ≠ 0) : a % 2 ^ n ≠ 0 := by
  intro h0
  obtain ⟨c, x, e, hc, hc1, hx, hx1, ha⟩ := low_split hj
  have hd : 18446744073709551616 ^ (n / 64) ∣ a := Nat.dvd_trans ⟨2 ^ (n % 64), pow_parts n⟩ (Nat.dvd_of_mod_eq_zero h0)
  have hc0 : c = 0 := by
    rw [ha] at hd
    have := (Nat.dvd_add_iff_left (Nat.dvd_mul_right (18446744073709551616 ^ (n / 64)) (x + 18446744073709551616 * e))).2 hd
    exact Nat.eq_zero_of_dvd_of_lt this hc1
  subst hc0
  obtain ⟨m, hm⟩ : ∃ m, n / 64 = t + (m + 1) := ⟨n / 64 - t - 1, by omega⟩
  rw [hm, V_split, Nat.zero_add, V_cons] at hc
  have h1 := V_nonneg (q := 18446744073709551616) (by decide) (mag_wd a) 0 t
  have h3 := (mag_wd a).dig (by decide) t
  have h4 := V_nonneg (q := 18446744073709551616) (by decide) (mag_wd a) (t + 1) m
  have h5 : (0 : Int) < 18446744073709551616 ^ t := Int.pow_pos (by decide)
  have h6 : 0 < (18446744073709551616 : Int) ^ t * (dig (mag a) t + 18446744073709551616 * V 18446744073709551616 (mag a) (t + 1) m) := Int.mul_pos h5 (by omega)
  omega
theorem low_c {a n : Nat} {z : Int} (hj : n / 64 < (mag a).length) (h : ∀ t, t < n / 64 → dig (mag a) t = 0) (hz : dig (mag a) (n / 64) = z) : (z * 2 ^ (64 - n % 64)) % 18446744073709551616 = ((18446744073709551616 * ((a % 2 ^ n) / 18446744073709551616 ^ (n / 64)) / 2 ^ (n % 64) : Nat) : Int) ∧ (a % 2 ^ n ≠ 0 ↔ (z * 2 ^ (64 - n % 64)) % 18446744073709551616 ≠ 0) := by
  obtain ⟨c, x, e, hc, hc1, hx, hx1, ha⟩ := low_split hj
  rw [V_zeros (fun i hi => by rw [Nat.zero_add]; exact h i hi)] at hc
  have hc0 : c = 0 := by omega
  subst hc0
  rw [← hz, hx]
  have hs : n % 64 < 64 := Nat.mod_lt _ (by decide)
  obtain ⟨s, hse⟩ : ∃ s, n % 64 = s := ⟨_, rfl⟩
  have hpp := pow_parts n
  rw [hse] at hpp hs ⊢
  obtain ⟨Q, hQ⟩ : ∃ Q, 18446744073709551616 ^ (n / 64) = Q := ⟨_, rfl⟩
  have hQ0 : 0 < Q := by rw [← hQ]; exact Nat.pow_pos (by decide)
  rw [hQ] at hpp ha ⊢
  have hq : 18446744073709551616 = 2 ^ s * 2 ^ (64 - s) := by rw [← Nat.pow_add, show s + (64 - s) = 64 by omega]
  obtain ⟨P, hP⟩ : ∃ P, 2 ^ s = P := ⟨_, rfl⟩
  obtain ⟨R, hR⟩ : ∃ R, 2 ^ (64 - s) = R := ⟨_, rfl⟩
  have hP0 : 0 < P := by rw [← hP]; exact Nat.pow_pos (by decide)
  have hR0 : 0 < R := by rw [← hR]; exact Nat.pow_pos (by decide)
  have hRi : (2 : Int) ^ (64 - s) = (R : Int) := by rw [← hR, Int.natCast_pow]; rfl
  rw [hP, hR] at hq
  rw [hP] at hpp ⊢
  have e1 : a % 2 ^ n = Q * (x % P) := by
    rw [hpp, ha, Nat.zero_add, Nat.mul_mod_mul_left]
    congr 1
    rw [hq, Nat.mul_assoc, Nat.add_mul_mod_self_left]
  have e2 : (x * R) % (P * R) = x % P * R := Nat.mul_mod_mul_right _ _ _
  rw [e1, hRi]
  have e3 : ((x : Int) * (R : Int)) % 18446744073709551616 = ((x % P * R : Nat) : Int) := by
    rw [← e2, ← hq, Int.natCast_emod, Int.natCast_mul]; rfl
  rw [e3]
  constructor
  · congr 1
    rw [Nat.mul_div_cancel_left _ hQ0, hq, Nat.mul_assoc, Nat.mul_div_cancel_left _ hP0, Nat.mul_comm]
  · have k1 : x % P * R ≠ 0 ↔ x % P ≠ 0 := by
      constructor
      · intro h h'; exact h (by rw [h', Nat.zero_mul])
      · intro h; exact Nat.ne_of_gt (Nat.mul_pos (Nat.pos_of_ne_zero h) hR0)
    have k2 : Q * (x % P) ≠ 0 ↔ x % P ≠ 0 := by
      constructor
      · intro h h'; exact h (by rw [h', Nat.mul_zero])
      · intro h; exact Nat.ne_of_gt (Nat.mul_pos hQ0 (Nat.pos_of_ne_zero h))
    rw [k2, ← k1]; omega
theorem low_a {a n l : Nat} (hl : l = (mag a).length) (hj : l ≤ n / 64) : decide (a % 2 ^ n ≠ 0) = decide (0 < l) := by
  have h1 := mag_len_lt hl
  have h2 : (18446744073709551616 : Int) ^ l ≤ ((2 ^ n : Nat) : Int) := by
    rw [show (18446744073709551616 : Int) = 2 ^ 64 from rfl, ← Int.pow_mul, Int.natCast_pow]
    exact pow_mono' (by decide) (by omega)
  rw [Nat.mod_eq_of_lt (by omega)]
  have h3 : 0 < l ↔ 0 < a := by rw [hl]; exact mag_len_pos
  by_cases h4 : 0 < a
  · rw [decide_eq_true (h3.2 h4), decide_eq_true (by omega)]
  · rw [decide_eq_false (fun h => h4 (h3.1 h)), decide_eq_false (by omega)]
end Go.Proofs.YtdanaebhjkbfmaaGreat
/- Walks: lowBitsSet. -/
namespace Go.Proofs.YtdanaebhjkbfmaaGreat
open Go.RowKit Go.Shelf
set_option linter.unusedVariables false
set_option linter.unusedSimpArgs false
set_option maxRecDepth 100000 in
set_option maxHeartbeats 1000000 in
theorem lowBits_any (ao : Option Addr) (la ca n a : Nat) (w : World) (hx : RowAt w .u64 ao la ca (mag a)) (hl : la ≤ 4294967296) (hn : n < 9223372036854775807) :
    Calls Tryz.prog 110 #[.slice ao la ca, .int .i64 (n : Int)] w fun e w' => e = .returned (.bool (decide (a % 2 ^ n ≠ 0))) ∧ w' = w := by
  have hdiv : (n : Int).tdiv 64 = ((n / 64 : Nat) : Int) := by rw [Int.tdiv_eq_ediv_of_nonneg (by omega)]; omega
  have hmod : (n : Int).tmod 64 = ((n % 64 : Nat) : Int) := by rw [Int.tmod_eq_emod_of_nonneg (by omega)]; omega
  obtain ⟨j, hj⟩ : ∃ j, n / 64 = j := ⟨_, rfl⟩
  obtain ⟨s, hs⟩ : ∃ s, n % 64 = s := ⟨_, rfl⟩
  have hs64 : s < 64 := by omega
  rw [hj] at hdiv; rw [hs] at hmod
  by_cases hge : la ≤ j
  · have HA : Hid (decide (a % 2 ^ n ≠ 0) = decide (0 < la)) := low_a hx.hlen (by omega)
    rw [HA.out]
    clear hx
    by_cases h0 : la = 0
    · subst h0
      go_enter Tryz.func110, Tryz.ntmps110
      go_wp2
      go_ret
      exact ⟨rfl, rfl⟩
    · rw [decide_eq_true (show 0 < la by omega)]
      have h0' : (0 : Int) < (la : Int) := by omega
      go_enter Tryz.func110, Tryz.ntmps110
      go_wp2
      go_ret
      exact ⟨by simp; omega, rfl⟩
  · obtain ⟨b, o, rfl, hlt, hc⟩ := hx.get (by omega)
    have hlen := hx.hlen
    have hcl := hx.hcap
    have HJ : Hid (n / 64 = j ∧ n % 64 = s ∧ la = (mag a).length) := ⟨hj, hs, hlen⟩
    have HC : Hid (∀ t, t < la → w.cell? ⟨b, o + t, none⟩ = some (.int .u64 (dig (mag a) t))) := hc
    have HB : Hid (∀ t, 0 ≤ dig (mag a) t ∧ dig (mag a) t < 18446744073709551616) := fun t => (mag_wd a).dig (by decide) t
    clear hx hc hj hs hlen
    go_enter Tryz.func110, Tryz.ntmps110
    go_wp2
    go_loopw [21, 7] (fun i _ wr => ∃ k : Nat, k ≤ j ∧ i = .int .i64 k ∧ wr = w ∧ ∀ t, t < k → dig (mag a) t = 0) (fun i _ _ => j - (intOf i).toNat)
    case atStart => exact ⟨0, Nat.zero_le _, rfl, rfl, fun t ht => by omega⟩
    case round =>
      obtain ⟨k, hk, rfl, rfl, hz⟩ := hrel
      have HZ : Hid (∀ t, t < k → dig (mag a) t = 0) := hz
      clear hz
      by_cases hlt2 : k < j
      · have hck := HC.out k (by omega)
        have hbk := HB.out k
        obtain ⟨z, hze⟩ : ∃ z, dig (mag a) k = z := ⟨_, rfl⟩
        rw [hze] at hck hbk
        have HE : Hid (dig (mag a) k = z) := hze
        clear hze
        by_cases hz0 : z = 0
        · subst hz0
          go_wp2
          go_roundw
          case rel =>
            refine ⟨k + 1, by omega, by go_num, by first | trivial | rfl, fun t ht => ?_⟩
            rcases Nat.lt_or_ge t k with h | h
            · exact HZ.out t h
            · rw [show t = k by omega]; exact HE.out
          case measure => simp [intOf]; omega
        · have hz0' : (z == 0) = false := by simp [hz0]
          have HL : Hid (decide (a % 2 ^ n ≠ 0) = true) := decide_eq_true (low_b (t := k) (by rw [HJ.out.1, ← HJ.out.2.2]; omega) (by rw [HJ.out.1]; omega) (by rw [HE.out]; exact hz0))
          go_wp2
          go_ret
          exact ⟨by rw [HL.out]; rfl, rfl⟩
      · obtain rfl : k = j := by omega
        have hck := HC.out k (by omega)
        have hbk := HB.out k
        obtain ⟨z, hze⟩ : ∃ z, dig (mag a) k = z := ⟨_, rfl⟩
        rw [hze] at hck hbk
        have hlc := (low_c (n := n) (z := z) (by rw [HJ.out.1, ← HJ.out.2.2]; omega) (by rw [HJ.out.1]; exact HZ.out) (by rw [HJ.out.1]; exact hze)).2
        rw [HJ.out.2.1] at hlc
        obtain ⟨y, hy⟩ : ∃ y, (z * 2 ^ (64 - s)) % 18446744073709551616 = y := ⟨_, rfl⟩
        rw [hy] at hlc
        have hw : IntKind.u64.wrap (z * 2 ^ (64 - s)) = y := by rw [IntKind.wrap_u64]; exact hy
        have HL : Hid (a % 2 ^ n ≠ 0 ↔ y ≠ 0) := hlc
        clear hlc hy hze
        go_wp2
        have HD : Hid (decide (a % 2 ^ n ≠ 0) = (y != 0)) := by
          show _ = _
          by_cases h : y = 0
          · rw [decide_eq_false (fun h' => (HL.out.1 h') h)]; subst h; rfl
          · rw [decide_eq_true (HL.out.2 h)]; simp [h]
        go_ret
        exact ⟨by rw [HD.out]; rfl, rfl⟩
theorem right_math {neg : Bool} {v : Int} (h : neg = sgB v) (p : Nat) (hp : 0 < p) : v / (p : Int) = sgn neg (if neg = true ∧ v.natAbs % p ≠ 0 then v.natAbs / p + 1 else v.natAbs / p) := by
  have h1 := sgn_of h
  obtain ⟨a, ha⟩ : ∃ a, v.natAbs = a := ⟨_, rfl⟩
  rw [ha] at h1 ⊢
  unfold sgn at h1 ⊢
  have hd := Nat.div_add_mod a p
  have hm := Nat.mod_lt a hp
  generalize a / p = q at *
  generalize a % p = r at *
  have hd' : (p : Int) * (q : Int) + (r : Int) = (a : Int) := by rw [← hd, Int.natCast_add, Int.natCast_mul]
  cases neg
  · simp at h1 ⊢
    rw [← h1, ← hd', Int.mul_add_ediv_left _ _ (by omega), Int.ediv_eq_zero_of_lt (by omega) (by omega), Int.add_zero]
  · simp at h1 ⊢
    rw [← h1, ← hd']
    by_cases hr : r = 0
    · subst hr
      simp
      rw [← Int.mul_neg, Int.mul_ediv_cancel_left _ (by omega)]
    · rw [if_neg hr]
      rw [show -((p : Int) * (q : Int) + (r : Int)) = (p : Int) * (-((q : Int) + 1)) + ((p : Int) - (r : Int)) by grind, Int.mul_add_ediv_left _ _ (by omega), Int.ediv_eq_zero_of_lt (by omega) (by omega), Int.add_zero]
      omega
set_option maxRecDepth 100000 in
set_option maxHeartbeats 1000000 in
theorem bright_any (neg : Bool) (ao : Option Addr) (len cap n : Nat) (v : Int) (w : World) (hx : IntAt w neg ao len cap v) (hl : len ≤ 4294967295) (hn : n < 9223372036854775807) :
    Calls Tryz.prog 97 #[.agg #[.bool neg, .slice ao len cap], .int .i64 (n : Int)] w fun e w' => NewIntErr w w' e (v / ((2 ^ n : Nat) : Int)) := by
  obtain ⟨W, hT⟩ := One2.mk' w neg ao len cap
  have hsz := hT.size
  have hR := hx.later hT.below
  have hM : Hid ((if mayB neg (mag v.natAbs) then 0 else 10 : Int) = 0) := hx.may
  have HE : Hid (v / ((2 ^ n : Nat) : Int) = sgn neg (if neg = true ∧ v.natAbs % 2 ^ n ≠ 0 then v.natAbs / 2 ^ n + 1 else v.natAbs / 2 ^ n)) := right_math hx.sg _ (Nat.pow_pos (by decide))
  have HQ : Hid ((mag (v.natAbs / 2 ^ n)).length ≤ len) := by
    show _ ≤ _
    rw [hx.row.hlen]; exact mag_len_mono (Nat.div_le_self _ _)
  clear hx
  cases neg
  · have HE2 : Hid (v / ((2 ^ n : Nat) : Int) = sgn false (v.natAbs / 2 ^ n)) := by have h := HE.out; rw [if_neg (fun h' => by cases h'.1)] at h; exact h
    clear HE
    go_enter Tryz.func97, Tryz.ntmps97
    go_wp2_with (first
      | (go_at_call 62; rw [← hT.eq]; refine (check_at false ao len cap _ _ hR.row (by omega) 0 hM.out).mono ?_; rintro e w1 ⟨rfl, hb1⟩; have hs1 := hb1.size; obtain ⟨p0, p1⟩ := hT.a.later hb1 (by omega))
      | (go_at_call 109; refine (shiftDown_any ao len cap n v.natAbs _ (hR.row.later hb1) (by omega) hn).mono ?_; rintro e w2 ⟨ao2, l2, c2, rfl, ho2, hb2⟩; have hlen2 : l2 ≤ len := (by rw [ho2.row.hlen]; exact HQ.out); clear p0 p1; obtain ⟨p0, p1⟩ := hT.a.later (bnext hb1 hb2) (by omega))
      | (go_at_call 92; refine (signed_any false ao2 l2 c2 _ (by omega)).mono ?_; rintro e w3 ⟨rfl, hb3⟩; obtain ⟨g5, g3, g4⟩ := hT.r.later (bnext hb1 (bnext hb2 hb3)) (by omega)))
    exact bodyPost_ret (v := .tuple #[.agg #[.bool (false && decide (0 < l2)), .slice ao2 l2 c2], .int .i64 0]) (by simp [results, Tryz.results97, go_sem, g3, g4]) rfl
      (NewInt.ret ((ho2.later hb3).store (by omega) _ _) (by omega) HE2.out (below_store (bnext hT.below (bnext hb1 (bnext hb2 hb3))) (by omega) _ _)).err
  · by_cases hlow : v.natAbs % 2 ^ n ≠ 0
    · have HE2 : Hid (v / ((2 ^ n : Nat) : Int) = sgn true (v.natAbs / 2 ^ n + 1)) := by have h := HE.out; rw [if_pos ⟨rfl, hlow⟩] at h; exact h
      have hlb := fun w hx => lowBits_any ao len cap n v.natAbs w hx (by omega) hn
      simp only [decide_eq_true hlow] at hlb
      clear HE hlow
      go_enter Tryz.func97, Tryz.ntmps97
      go_wp2_with (first
        | (go_at_call 62; rw [← hT.eq]; refine (check_at true ao len cap _ _ hR.row (by omega) 0 hM.out).mono ?_; rintro e w1 ⟨rfl, hb1⟩; have hs1 := hb1.size; obtain ⟨p0, p1⟩ := hT.a.later hb1 (by omega))
        | (go_at_call 109; refine (shiftDown_any ao len cap n v.natAbs _ (hR.row.later hb1) (by omega) hn).mono ?_; rintro e w2 ⟨ao2, l2, c2, rfl, ho2, hb2⟩; have hlen2 : l2 ≤ len := (by rw [ho2.row.hlen]; exact HQ.out); clear p0 p1; obtain ⟨p0, p1⟩ := hT.a.later (bnext hb1 hb2) (by omega); have hO := one_row' w2 1 1 rfl (by decide) (by decide); have HO : Hid (Own w2.heap.size (w2.alloc (.cells #[.int .u64 1] 73)) .u64 73 (some ⟨w2.heap.size, 0, none⟩) 1 1 (mag 1) ∧ Below w2.heap.size w2 (w2.alloc (.cells #[.int .u64 1] 73))) := hO; clear hO)
        | (go_at_call 110; refine (hlb _ (hR.row.later (bnext hb1 hb2))).mono ?_; rintro e w9 ⟨rfl, hw9⟩; replace hw9 := hw9.symm; subst hw9)
        | (go_at_call 111; refine (plus_any ao2 (some ⟨w2.heap.size, 0, none⟩) l2 c2 1 1 (v.natAbs / 2 ^ n) 1 _ (ho2.row.later HO.out.2) HO.out.1.row (by omega) (by omega)).mono ?_; rintro e w4 ⟨ao4, l4, c4, rfl, ho4, hb4⟩; have hl4 : l4 ≤ 4611686018427387904 := (by rw [ho4.row.hlen]; have q1 := mag_len_add (v.natAbs / 2 ^ n) 1; rw [← ho2.row.hlen] at q1; have q2 := mag_len_one (n := 1) (by decide); omega); have HB4 : Hid (Below W.heap.size W w4) := bnext (bnext (bnext hb1 hb2) HO.out.2) hb4; clear p0 p1; obtain ⟨p0, p1⟩ := hT.a.later HB4.out (by omega); have hs4 := HB4.out.size; have hs5 : W.heap.size ≤ (w2.alloc (.cells #[.int .u64 1] 73)).heap.size := (bnext (bnext hb1 hb2) HO.out.2).size)
        | (go_at_call 92; refine (signed_any true ao4 l4 c4 _ (by omega)).mono ?_; rintro e w3 ⟨rfl, hb3⟩; obtain ⟨g5, g3, g4⟩ := hT.r.later (bnext HB4.out hb3) (by omega)))
      exact bodyPost_ret (v := .tuple #[.agg #[.bool (true && decide (0 < l4)), .slice ao4 l4 c4], .int .i64 0]) (by simp [results, Tryz.results97, go_sem, g3, g4]) rfl
        (NewInt.ret ((ho4.later hb3).store (by omega) _ _) (by omega) HE2.out (below_store (bnext hT.below (bnext HB4.out hb3)) (by omega) _ _)).err
    · have HE2 : Hid (v / ((2 ^ n : Nat) : Int) = sgn true (v.natAbs / 2 ^ n)) := by have h := HE.out; rw [if_neg (fun h' => hlow h'.2)] at h; exact h
      have hlb := fun w hx => lowBits_any ao len cap n v.natAbs w hx (by omega) hn
      simp only [decide_eq_false hlow] at hlb
      clear HE hlow
      go_enter Tryz.func97, Tryz.ntmps97
      go_wp2_with (first
        | (go_at_call 62; rw [← hT.eq]; refine (check_at true ao len cap _ _ hR.row (by omega) 0 hM.out).mono ?_; rintro e w1 ⟨rfl, hb1⟩; have hs1 := hb1.size; obtain ⟨p0, p1⟩ := hT.a.later hb1 (by omega))
        | (go_at_call 109; refine (shiftDown_any ao len cap n v.natAbs _ (hR.row.later hb1) (by omega) hn).mono ?_; rintro e w2 ⟨ao2, l2, c2, rfl, ho2, hb2⟩; have hlen2 : l2 ≤ len := (by rw [ho2.row.hlen]; exact HQ.out); clear p0 p1; obtain ⟨p0, p1⟩ := hT.a.later (bnext hb1 hb2) (by omega))
        | (go_at_call 110; refine (hlb _ (hR.row.later (bnext hb1 hb2))).mono ?_; rintro e w9 ⟨rfl, hw9⟩; replace hw9 := hw9.symm; subst hw9)
        | (go_at_call 92; refine (signed_any true ao2 l2 c2 _ (by omega)).mono ?_; rintro e w3 ⟨rfl, hb3⟩; obtain ⟨g5, g3, g4⟩ := hT.r.later (bnext hb1 (bnext hb2 hb3)) (by omega)))
      exact bodyPost_ret (v := .tuple #[.agg #[.bool (true && decide (0 < l2)), .slice ao2 l2 c2], .int .i64 0]) (by simp [results, Tryz.results97, go_sem, g3, g4]) rfl
        (NewInt.ret ((ho2.later hb3).store (by omega) _ _) (by omega) HE2.out (below_store (bnext hT.below (bnext hb1 (bnext hb2 hb3))) (by omega) _ _)).err
end Go.Proofs.YtdanaebhjkbfmaaGreat
/- Walks: Divide. -/
namespace Go.Proofs.YtdanaebhjkbfmaaGreat
open Go.RowKit Go.Shelf
set_option linter.unusedVariables false
set_option linter.unusedSimpArgs false
/-- quotient, rounded down, and rest -/
def FloorOf (v u q r : Int) : Prop := v = u * q + r ∧ (0 < u ∧ 0 ≤ r ∧ r < u ∨ u < 0 ∧ u < r ∧ r ≤ 0)
theorem FloorOf.pos {v u q r : Int} (h : FloorOf v u q r) (hu : 0 < u) : q = v / u ∧ r = v % u := by
  obtain ⟨h1, h2 | h2⟩ := h
  · have h3 : q = v / u := by
      rw [h1, Int.mul_add_ediv_left _ _ (by omega), Int.ediv_eq_zero_of_lt h2.2.1 h2.2.2, Int.add_zero]
    refine ⟨h3, ?_⟩
    have := Int.mul_ediv_add_emod v u
    rw [← h3] at this; omega
  · omega
/-- two numbers and no error -/
def TwoIntErr (w w' : World) (e : Ending) (x y : Int) : Prop :=
  ∃ n1 ao1 l1 c1 n2 ao2 l2 c2, e = .returned (.tuple #[.agg #[.bool n1, .slice ao1 l1 c1], .agg #[.bool n2, .slice ao2 l2 c2], .int .i64 0]) ∧ n1 = sgB x ∧ Own w.heap.size w' .u64 73 ao1 l1 c1 (mag x.natAbs) ∧ n2 = sgB y ∧ Own w.heap.size w' .u64 73 ao2 l2 c2 (mag y.natAbs) ∧ Below w.heap.size w w'
/-- likewise, in blocks of their own -/
def TwoIntErrP (w w' : World) (e : Ending) (x y : Int) : Prop :=
  ∃ n1 ao1 l1 c1 n2 ao2 l2 c2, e = .returned (.tuple #[.agg #[.bool n1, .slice ao1 l1 c1], .agg #[.bool n2, .slice ao2 l2 c2], .int .i64 0]) ∧ n1 = sgB x ∧ Own w.heap.size w' .u64 73 ao1 l1 c1 (mag x.natAbs) ∧ n2 = sgB y ∧ Own w.heap.size w' .u64 73 ao2 l2 c2 (mag y.natAbs) ∧ Below w.heap.size w w' ∧ Parted ao1 ao2
theorem TwoIntErrP.less {w w' : World} {e : Ending} {x y : Int} (h : TwoIntErrP w w' e x y) : TwoIntErr w w' e x y := by
  obtain ⟨n1, ao1, l1, c1, n2, ao2, l2, c2, h1, h2, h3, h4, h5, h6, _⟩ := h
  exact ⟨n1, ao1, l1, c1, n2, ao2, l2, c2, h1, h2, h3, h4, h5, h6⟩
/-- two numbers handed in, two results to come -/
structure Two4 (w W : World) (na nb : Bool) (ao bo : Option Addr) (la ca lb cb : Nat) : Prop where
  eq : W = (((w.alloc (.cells #[.bool na, .slice ao la ca] 28)).alloc (.cells #[.bool nb, .slice bo lb cb] 28)).alloc (.cells #[.bool false, .slice none 0 0] 28)).alloc (.cells #[.bool false, .slice none 0 0] 28)
  below : Below w.heap.size w W
  size : W.heap.size = w.heap.size + 4
  a : Boxed W w.heap.size na ao la ca
  b : Boxed W (w.heap.size + 1) nb bo lb cb
  r : Fresh W (w.heap.size + 1 + 1)
  r2 : Fresh W (w.heap.size + 1 + 1 + 1)
theorem Two4.mk' (w : World) (na nb : Bool) (ao bo : Option Addr) (la ca lb cb : Nat) : ∃ W, Two4 w W na nb ao bo la ca lb cb := by
  obtain ⟨X, hX⟩ := Two3.mk' w na nb ao bo la ca lb cb
  have hs := hX.size
  have h1 : Below X.heap.size X (X.alloc (.cells #[.bool false, .slice none 0 0] 28)) := (Below.refl _ _).alloc (Nat.le_refl _) _
  have h2 := Fresh.new X
  rw [hs] at h2
  exact ⟨X.alloc (.cells #[.bool false, .slice none 0 0] 28), by rw [hX.eq], bnext hX.below h1, by simp [hs], hX.a.later h1 (by omega), hX.b.later h1 (by omega), hX.r.later h1 (by omega), h2⟩
theorem TwoIntErrP.of {w w' : World} {m1 m2 : Bool} {a1 a2 : Option Addr} {l1 c1 l2 c2 : Nat} {q r : Int} (h : NewInt w w' (.returned (.agg #[.bool m1, .slice a1 l1 c1])) q) (k : NewInt w w' (.returned (.agg #[.bool m2, .slice a2 l2 c2])) r) (hp : Parted a1 a2) : TwoIntErrP w w' (.returned (.tuple #[.agg #[.bool m1, .slice a1 l1 c1], .agg #[.bool m2, .slice a2 l2 c2], .int .i64 0])) q r := by
  obtain ⟨n1, a1, l1, c1, he1, hs1, ho1, hb1⟩ := h
  obtain ⟨n2, a2, l2, c2, he2, hs2, ho2, hb2⟩ := k
  cases he1; cases he2
  exact ⟨_, _, _, _, _, _, _, _, rfl, hs1, ho1, hs2, ho2, hb1, hp⟩
end Go.Proofs.YtdanaebhjkbfmaaGreat
/-
  LB0, LD0.
-/
/- Numbers that lie in variables; lengths of powers. -/
namespace Go.Proofs.YtdanaebhjkbfmaaGreat
open Go.RowKit
set_option linter.unusedVariables false
set_option linter.unusedSimpArgs false
/-- a number in a variable of its own -/
structure InVar (W : World) (r : Nat) (neg : Bool) (ao : Option Addr) (l c : Nat) (v : Int) : Prop where
  box : Boxed W r neg ao l c
  int : IntAt W neg ao l c v
  lt : r < W.heap.size
theorem InVar.later {W w' : World} {r : Nat} {neg : Bool} {ao : Option Addr} {l c : Nat} {v : Int} (h : InVar W r neg ao l c v) (hb : Below W.heap.size W w') : InVar w' r neg ao l c v :=
  ⟨h.box.later hb h.lt, h.int.later hb, Nat.lt_of_lt_of_le h.lt hb.size⟩
theorem InVar.new {W X y : World} {neg : Bool} {ao : Option Addr} {l c : Nat} {v : Int} (hX : Below W.heap.size W X) (hs : neg = sgB v) (ho : Own X.heap.size y .u64 73 ao l c (mag v.natAbs)) (hb : Below X.heap.size X y) :
    Hid (InVar (y.alloc (.cells #[.bool neg, .slice ao l c] 28)) y.heap.size neg ao l c v ∧ Below W.heap.size W (y.alloc (.cells #[.bool neg, .slice ao l c] 28)) ∧ Below X.heap.size X (y.alloc (.cells #[.bool neg, .slice ao l c] 28))) := by
  have h1 : Below y.heap.size y (y.alloc (.cells #[.bool neg, .slice ao l c] 28)) := (Below.refl _ _).alloc (Nat.le_refl _) _
  have h2 : Below X.heap.size X (y.alloc (.cells #[.bool neg, .slice ao l c] 28)) := hb.trans (below_less h1 hb.size)
  exact ⟨⟨⟨by simp [go_sem], by simp [go_sem]⟩, (ho.int hs).later h1, by simp⟩, bnext hX h2, h2⟩
end Go.Proofs.YtdanaebhjkbfmaaGreat
/- KG, KH, LD0. -/
namespace Go.Proofs.YtdanaebhjkbfmaaGreat
open Go.RowKit
set_option linter.unusedVariables false
set_option linter.unusedSimpArgs false
set_option maxRecDepth 100000 in
set_option maxHeartbeats 1000000 in
theorem copyWords_any (ao : Option Addr) (len cap : Nat) (zs : List Int) (w : World) (hr : RowAt w .u64 ao len cap zs) (hl : len ≤ 4294967296) :
    Calls Tryz.prog 83 #[.slice ao len cap] w fun e w' => ∃ v, e = .returned v ∧ w'.ownsRow w.heap.size 73 1 v len (zs.map (Value.int .u64)) ∧ Below w.heap.size w w' := by
  obtain ⟨i0, hi, hz0, hz1, hz2⟩ := info_parts info64
  have HL : Hid (len = zs.length) := hr.hlen
  go_enter Tryz.func83, Tryz.ntmps83
  go_wp2
  go_loopw [3, 4] (fun v i wr => ∃ k : Nat, k ≤ len ∧ i = .int .i64 (k : Nat) ∧ wr.ownsRow w.heap.size 73 1 v k ((zs.take k).map (Value.int .u64)) ∧ Below w.heap.size w wr) (fun _ i _ => len - (intOf i).toNat)
  case atStart => exact ⟨0, Nat.zero_le _, rfl, World.ownsRow_nil _ _ _ _, Below.refl _ _⟩
  case round =>
    obtain ⟨k, hk, rfl, hown, hbel⟩ := hrel
    by_cases hlt : k < len
    · obtain ⟨b, off, rfl, hb, hc⟩ := hr.get (by omega)
      have hcell : wr.cell? ⟨b, off + k, none⟩ = some (.int .u64 (dig zs k)) := (hbel.cell (p := ⟨b, off + k, none⟩) hb).trans (hc k hlt)
      obtain ⟨x, hx⟩ : ∃ x, dig zs k = x := ⟨_, rfl⟩
      rw [hx] at hcell
      have hbs : b < wr.heap.size := by have := hbel.size; omega
      have h63 : Hid (k + 1 ≤ maxLen) := by show _ ≤ _; unfold maxLen; omega
      have hby : Hid ((k + 1) * 8 ≤ 140737488355328) := by show _ ≤ _; omega
      have hbz : Hid (w.heap.size ≤ wr.heap.size + 1) := by show _ ≤ _; have := hbel.size; omega
      have HX : Hid ((zs.take (k + 1)).map (Value.int .u64) = (zs.take k).map (Value.int .u64) ++ [.int .u64 x]) := by
        show _ = _
        have a1 : zs.getD k 0 = x := hx
        rw [take_getD (by have := HL.out; omega), List.map_append, a1]; rfl
      clear hc hx
      go_wp2_with (at_builtin; refine wpList_append_lies _ rfl _ _ 25 rfl w.heap.size 73 i0 (.int .u64 0) 1 8 Tryz.underlying25 hi hz0 hz1 hz2 rfl (by decide) _ k _ rfl (hown.alloc _) ⟨wr.heap.size, 0, none⟩ 1 1 [.int .u64 x] rfl rfl (World.news_of_block (cs := #[.int .u64 x]) (t := 73) (fr := (0, 0)) (heap_alloc_new wr _)) (by simp [Value.oneCell']) (by decide) h63.out hby.out (by simpa using hbz.out) (wr.heap.size + 1) (by simp) ?_; intro g cp w1 hown1 hgrow hat hltg)
      have hB1 : Below w.heap.size w w1 := (hbel.alloc hbel.size _).grown hgrow (by simpa using hbz.out) (own_from hown)
      go_roundw
      case rel => exact ⟨k + 1, by omega, by go_num, by rw [HX.out]; exact hown1, hB1⟩
      case measure => simp [intOf]; omega
    · obtain rfl : k = len := by omega
      have hkl : Hid (zs.take k = zs) := List.take_of_length_le (by have := HL.out; omega)
      rw [hkl.out] at hown
      go_wp2
      go_ret
      exact ⟨_, rfl, hown, hbel⟩
end Go.Proofs.YtdanaebhjkbfmaaGreat
/- Walks: Mul of any length; the laws' mul. -/
namespace Go.Proofs.YtdanaebhjkbfmaaGreat
open Go.RowKit Go.Shelf
set_option linter.unusedVariables false
set_option linter.unusedSimpArgs false
set_option maxRecDepth 100000 in
set_option maxHeartbeats 1000000 in
theorem bmul_any (na nb : Bool) (ao bo : Option Addr) (la ca lb cb : Nat) (a b : Int) (w : World) (hx : IntAt w na ao la ca a) (hy : IntAt w nb bo lb cb b) (hl : la ≤ 2147483648) (hl' : lb ≤ 2147483648) :
    Calls Tryz.prog 90 #[.agg #[.bool na, .slice ao la ca], .agg #[.bool nb, .slice bo lb cb]] w fun e w' => NewIntErr w w' e (a * b) := by
  obtain ⟨W, hT⟩ := Two3.mk' w na nb ao bo la ca lb cb
  have hsz := hT.size
  have hc : (if mayB na (mag a.natAbs) && mayB nb (mag b.natAbs) then 0 else 10 : Int) = 0 := by rw [hx.sg, hy.sg, may_int, may_int]; rfl
  have HC : Hid _ := hc
  have HV : Hid (a * b = sgn (na != nb) (a.natAbs * b.natAbs)) := sgn_mul hx.sg hy.sg
  have hRx := hx.later hT.below
  have hRy := hy.later hT.below
  clear hc hx hy
  have KS : Hid (∀ w' : World, Below (w.heap.size + 2) W w' → (Below (w.heap.size + 2) W w' ∧ w'.cell? ⟨w.heap.size, 0, none⟩ = some (.bool na) ∧ w'.cell? ⟨w.heap.size, 1, none⟩ = some (.slice ao la ca) ∧ w'.cell? ⟨w.heap.size + 1, 0, none⟩ = some (.bool nb) ∧ w'.cell? ⟨w.heap.size + 1, 1, none⟩ = some (.slice bo lb cb))) := fun w' h => ⟨h, (h.cell (p := ⟨w.heap.size, 0, none⟩) (by show w.heap.size < _; omega)).trans hT.a.1, (h.cell (p := ⟨w.heap.size, 1, none⟩) (by show w.heap.size < _; omega)).trans hT.a.2, (h.cell (p := ⟨w.heap.size + 1, 0, none⟩) (by show w.heap.size + 1 < _; omega)).trans hT.b.1, (h.cell (p := ⟨w.heap.size + 1, 1, none⟩) (by show w.heap.size + 1 < _; omega)).trans hT.b.2⟩
  have K1 : Hid (∀ w1 w2 : World, (Below (w.heap.size + 2) W w1 ∧ w1.cell? ⟨w.heap.size, 0, none⟩ = some (.bool na) ∧ w1.cell? ⟨w.heap.size, 1, none⟩ = some (.slice ao la ca) ∧ w1.cell? ⟨w.heap.size + 1, 0, none⟩ = some (.bool nb) ∧ w1.cell? ⟨w.heap.size + 1, 1, none⟩ = some (.slice bo lb cb)) → Below w1.heap.size w1 w2 → (Below (w.heap.size + 2) W w2 ∧ w2.cell? ⟨w.heap.size, 0, none⟩ = some (.bool na) ∧ w2.cell? ⟨w.heap.size, 1, none⟩ = some (.slice ao la ca) ∧ w2.cell? ⟨w.heap.size + 1, 0, none⟩ = some (.bool nb) ∧ w2.cell? ⟨w.heap.size + 1, 1, none⟩ = some (.slice bo lb cb))) := fun w1 w2 h hb => KS.out _ (h.1.trans (hb.mono (by have := h.1.size; omega)))
  have K2 : Hid (∀ w1 w2 : World, (Below (w.heap.size + 2) W w1 ∧ w1.cell? ⟨w.heap.size, 0, none⟩ = some (.bool na) ∧ w1.cell? ⟨w.heap.size, 1, none⟩ = some (.slice ao la ca) ∧ w1.cell? ⟨w.heap.size + 1, 0, none⟩ = some (.bool nb) ∧ w1.cell? ⟨w.heap.size + 1, 1, none⟩ = some (.slice bo lb cb)) → Below (w.heap.size + 2) w1 w2 → (Below (w.heap.size + 2) W w2 ∧ w2.cell? ⟨w.heap.size, 0, none⟩ = some (.bool na) ∧ w2.cell? ⟨w.heap.size, 1, none⟩ = some (.slice ao la ca) ∧ w2.cell? ⟨w.heap.size + 1, 0, none⟩ = some (.bool nb) ∧ w2.cell? ⟨w.heap.size + 1, 1, none⟩ = some (.slice bo lb cb))) := fun w1 w2 h hb => KS.out _ (h.1.trans hb)
  go_enter Tryz.func90, Tryz.ntmps90
  go_wp2_with (go_at_call 102; rw [← hT.eq]; refine (checkBoth_any na nb ao bo la ca lb cb _ _ _ hRx.row hRy.row (by omega) (by omega) 0 HC.out).mono ?_; rintro e w1 ⟨rfl, hb1⟩; have hs1 := hb1.size)
  have hbX : Below (w.heap.size + 2) W w1 := hb1.mono (by omega)
  go_region_held3 (fun w' => Below (w.heap.size + 2) W w' ∧ w'.cell? ⟨w.heap.size, 0, none⟩ = some (.bool na) ∧ w'.cell? ⟨w.heap.size, 1, none⟩ = some (.slice ao la ca) ∧ w'.cell? ⟨w.heap.size + 1, 0, none⟩ = some (.bool nb) ∧ w'.cell? ⟨w.heap.size + 1, 1, none⟩ = some (.slice bo lb cb))
    (first
      | exact KS.out _ hbX.drew
      | exact K1.out _ _ (by assumption) (by assumption)
      | exact K2.out _ _ (by assumption) (below_store (Below.refl _ _) (by omega) _ _))
    (first
      | (go_at_call 104; refine (times_any ao bo la ca lb cb _ _ _ (hRx.row.later hb1.drew) (hRy.row.later hb1.drew) (by omega) (by omega)).mono ?_; rintro e w2 ⟨ao2, l2, c2, rfl, ho2, hb2⟩; have hlen2 : l2 ≤ 4294967296 := (by rw [ho2.row.hlen]; have q := mag_len_mul a.natAbs b.natAbs; rw [← hRx.row.hlen, ← hRy.row.hlen] at q; omega))
      | (go_at_call 92; refine (signed_any (na != nb) ao2 l2 c2 _ (by omega)).mono ?_; rintro e w3 ⟨rfl, hb3⟩; obtain ⟨g5, g3, g4⟩ := hT.r.later (bnext hb1.drew (bnext hb2 hb3)) (by omega)))
  go_wp2
  have hN := NewInt.ret (w := w) ((ho2.later hb3).store (r := w.heap.size + 1 + 1) (by show _ < w1.heap.size; omega) (.bool ((na != nb) && decide (0 < l2))) (.slice ao2 l2 c2)) (by show _ ≤ w1.heap.size; omega) HV.out (below_store (bnext hT.below (bnext hb1.drew (bnext hb2 hb3))) (by omega) _ _)
  obtain ⟨n9, ao9, l9, c9, he9, hrest9⟩ := hN
  simp only [Ending.returned.injEq, Value.agg.injEq] at he9
  exact bodyPost_ret (v := .tuple #[.agg #[.bool ((na != nb) && decide (0 < l2)), .slice ao2 l2 c2], .int .i64 0]) (by simp [results, Tryz.results90, go_sem, g3, g4]) rfl
    ⟨n9, ao9, l9, c9, by rw [he9], hrest9⟩
end Go.Proofs.YtdanaebhjkbfmaaGreat
/- Lengths of sums, products, quotients; quotients of products. -/
namespace Go.Proofs.YtdanaebhjkbfmaaGreat
open Go.RowKit
set_option linter.unusedVariables false
set_option linter.unusedSimpArgs false
theorem add_len (a b : Int) : (mag (a + b).natAbs).length ≤ (mag a.natAbs).length + (mag b.natAbs).length + 1 :=
  Nat.le_trans (mag_len_mono (Int.natAbs_add_le a b)) (mag_len_add _ _)
theorem mul_len (a b : Int) : (mag (a * b).natAbs).length ≤ (mag a.natAbs).length + (mag b.natAbs).length := by rw [Int.natAbs_mul]; exact mag_len_mul _ _
/-- a number of at most B limbs -/
def Num (w : World) (neg : Bool) (ao : Option Addr) (l c : Nat) (v : Int) (B : Nat) : Prop := IntAt w neg ao l c v ∧ l ≤ B
theorem Num.later {w w' : World} {neg : Bool} {ao : Option Addr} {l c B : Nat} {v : Int} (h : Num w neg ao l c v B) (hb : Below w.heap.size w w') : Num w' neg ao l c v B := ⟨h.1.later hb, h.2⟩
theorem Fresh.alloc' {X : World} {r : Nat} {o : Obj} (h : Fresh X r) : Fresh (X.alloc o) r := by
  have hb : Below X.heap.size X (X.alloc o) := (Below.refl _ _).alloc (Nat.le_refl _) _
  exact h.later hb (cell_lt h.2.1)
theorem Fresh.next {W w2 : World} {r : Nat} (k : Fresh W r) (h : Below W.heap.size W w2) : Fresh w2 r := k.later h (cell_lt k.2.1)
theorem own_alloc {B : Nat} {X : World} {k : IntKind} {t : TypeId} {ao : Option Addr} {l c : Nat} {zs : List Int} {o : Obj} (h : Own B X k t ao l c zs) : Own B (X.alloc o) k t ao l c zs := h.later ((Below.refl _ _).alloc (Nat.le_refl _) _)
theorem own_set {B : Nat} {X : World} {k : IntKind} {t : TypeId} {ao : Option Addr} {l c r j : Nat} {zs : List Int} {v : Value} (h : Own B X k t ao l c zs) (hr : r < B) : Own B (X.setCell ⟨r, j, none⟩ v) k t ao l c zs := h.setOther (a := ⟨r, j, none⟩) hr v
theorem below_alloc {B : Nat} {w X : World} {o : Obj} (h : Below B w X) (hB : B ≤ w.heap.size) : Below B w (X.alloc o) := h.alloc (Nat.le_trans hB h.size) o
theorem below_set {B r j : Nat} {w X : World} {v : Value} (h : Below B w X) (hr : B ≤ r) : Below B w (X.setCell ⟨r, j, none⟩ v) := h.setCell (p := ⟨r, j, none⟩) hr v
end Go.Proofs.YtdanaebhjkbfmaaGreat
