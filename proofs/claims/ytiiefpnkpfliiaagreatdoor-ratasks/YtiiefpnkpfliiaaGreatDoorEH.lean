/-
  EE, EF, EG, EH.
-/
import Derived.Test.YtiiefpnkpfliiaaGreatDoorED

/- Walks: divide. -/
namespace Go.Proofs.YtiiefpnkpfliiaaGreatDoor
open Go.RowKit
set_option linter.unusedVariables false
set_option linter.unusedSimpArgs false

theorem quo_end {a b l : Nat} {y r : Int} {L0 L' : List Int} (hl : l = (mag a).length) (hl0 : L0.length = l) (hy : y = (b : Int)) (h : QuoSt 18446744073709551616 L0 (mag a) y 0 l 0 r L') : val 18446744073709551616 L' = ((a / b : Nat) : Int) ∧ r = ((a % b : Nat) : Int) := by
  have e := h.eq
  rw [Nat.sub_zero, Nat.zero_add, V_all _ (by rw [h.len, hl0]), V_all _ hl, mag_val] at e
  have h1 := h.r1
  rw [hy] at e h1
  exact nat_div_of e h.r0 h1

set_option maxRecDepth 100000 in
set_option maxHeartbeats 2000000 in
theorem divide_any (ao bo : Option Addr) (la ca lb cb : Nat) (a b : Nat) (w : World) (hx : RowAt w .u64 ao la ca (mag a)) (hy : RowAt w .u64 bo lb cb (mag b)) (hl : la ≤ 4294967296) (hl' : lb ≤ 4294967296) (hb0 : 0 < b) :
    Calls Tryz.prog 128 #[.slice ao la ca, .slice bo lb cb] w fun e w' => TwoNat w w' e (a / b) (a % b) := by
  obtain ⟨i0, hi, hz0, hz1, hz2⟩ := info_parts info64
  by_cases hlt : a < b
  · have hcmp := compare_at ao bo la ca lb cb a b w hx hy hl hl' (-1) (cmpI_lt (by omega))
    have HX : Hid (RowAt w .u64 ao la ca (mag a) ∧ a / b = 0 ∧ a % b = a) := ⟨hx, Nat.div_eq_of_lt hlt, Nat.mod_eq_of_lt hlt⟩
    clear hx hy
    go_enter Tryz.func128, Tryz.ntmps128
    go_wp2_with (first
      | (go_at_call 134; refine hcmp.mono ?_; rintro e w1 ⟨rfl, hb1⟩)
      | (go_at_call 100; refine (clone_any ao la ca (mag a) w1 (HX.out.1.later hb1) hl).mono ?_; rintro e w2 ⟨ao2, l2, c2, rfl, ho2, hb2⟩))
    go_ret2
    exact ⟨none, 0, 0, ao2, l2, c2, rfl, by rw [HX.out.2.1]; exact Own.none_, by rw [HX.out.2.2]; exact ho2.mono hb1.size, hb1.trans (below_less hb2 hb1.size), Parted.none_⟩
  · obtain ⟨c, hc⟩ : ∃ c, cmpI (a : Int) (b : Int) = c := ⟨_, rfl⟩
    have hcmp := compare_at ao bo la ca lb cb a b w hx hy hl hl' c hc
    have hc0 : ¬ c < 0 := by
      rw [← hc]; unfold cmpI; rw [if_neg (by omega)]; split <;> decide
    have hlen : lb ≤ la := by
      have := mag_len_mono (a := a) (b := b) (by omega)
      rw [← hx.hlen, ← hy.hlen] at this; exact this
    have hlb : 0 < lb := by rw [hy.hlen]; exact mag_len_pos.2 hb0
    have HX : Hid (RowAt w .u64 ao la ca (mag a) ∧ RowAt w .u64 bo lb cb (mag b)) := ⟨hx, hy⟩
    clear hc
    by_cases h1 : lb = 1
    · subst h1
      obtain ⟨p, o, rfl, hp, hcp⟩ := hy.get (by omega)
      have k1 := hcp 0 (by omega)
      simp only [Nat.add_zero] at k1
      have n1 := mag_of_one hy.hlen.symm
      obtain ⟨y, hye⟩ : ∃ y, dig (mag b) 0 = y := ⟨_, rfl⟩
      rw [hye] at k1
      have HN : Hid (y = (b : Int)) := by show _ = _; rw [← hye, n1.1]; rfl
      have hy1 : 0 < y := by rw [HN.out]; omega
      have hy2 : y < 18446744073709551616 := by rw [HN.out]; omega
      have b1 : Hid (i0.bytes * la ≤ 281474976710656) := by show _ ≤ _; rw [hz2]; omega
      have b2 : Hid (la ≤ maxLen) := by show _ ≤ _; unfold maxLen; omega
      have b3 : Hid (Wd 18446744073709551616 (List.replicate la 0)) := wd_zeros (by decide) _
      have HR : Hid (a % b < 18446744073709551616) := by
        have := Nat.mod_lt a hb0
        show _ < _; omega
      have KC : Hid (w.cell? ⟨p, o, none⟩ = some (.int .u64 y)) := k1
      clear hx hy hcp n1 hye k1
      go_enter Tryz.func128, Tryz.ntmps128
      go_wp2_with (first
        | (go_at_call 134; refine hcmp.mono ?_; rintro e w1 ⟨rfl, hb1⟩)
        | (at_make; refine wpList_make_full _ rfl (.tmp 20) (.tmp 20) 24 rfl 0 59 i0 (.int .u64 0) 1 Tryz.underlying24 hi hz0 hz1 .i64 .i64 _ _ la rfl rfl (by omega) (by omega) b1.out b2.out (Nat.zero_le _) ?_; intro w2 hown2 hgrow2; have HB : Hid (Blk w2 w1.heap.size .u64 59 (List.replicate la 0) ∧ Below w.heap.size w w2 ∧ w.heap.size ≤ w1.heap.size) := ⟨made_blk hown2, hb1.trans (below_less (grown_below hgrow2) hb1.size), hb1.size⟩; have k2 : w2.cell? ⟨p, o, none⟩ = some (.int .u64 y) := (HB.out.2.1.cell (p := ⟨p, o, none⟩) hp).trans KC.out; clear hown2 hgrow2)
        | (go_at_call 142; refine (divideByLimb_any w1.heap.size 0 la la ao ca (List.replicate la 0) (mag a) y w2 HB.out.1 b3.out (by simp) (Nat.le_refl _) (by omega) (HX.out.1.later HB.out.2.1) (mag_wd _) (apart_new HX.out.1 HB.out.2.2) hy1 hy2).mono ?_; rintro e w3 ⟨r, L3, rfl, hb3, hq3, ht3⟩; have HQ : Hid (Blk w3 w1.heap.size .u64 59 L3 ∧ L3.length = la ∧ Wd 18446744073709551616 L3 ∧ Below w.heap.size w w3 ∧ val 18446744073709551616 L3 = ((a / b : Nat) : Int)) := ⟨hb3, (by rw [hq3.len]; simp), hq3.wd, HB.out.2.1.trans (ht3.below HB.out.2.2), (quo_end HX.out.1.hlen (by simp) HN.out hq3).1⟩; have hr3 := (quo_end HX.out.1.hlen (by simp) HN.out hq3).2; clear hb3 hq3 ht3; subst hr3)
        | (go_at_call 143; refine (trim_any (some ⟨w1.heap.size, 0, none⟩) la la L3 w3 (Own.whole (B := 0) HQ.out.1 (Nat.zero_le _) HQ.out.2.1.symm).row (by omega)).mono ?_; rintro e w4 ⟨hT4, hw4⟩; replace hw4 := hw4.symm; subst hw4; obtain ⟨ao4, n4, cap4, hn4, rfl, hrest4⟩ := hT4)
        | (go_at_call 112; refine (ofLimb_any (a % b) w3 HR.out).mono ?_; rintro e w5 ⟨ao5, n5, cap5, rfl, ho5, hb5⟩))
      go_ret2
      exact ⟨ao4, n4, cap4, ao5, n5, cap5, rfl, (trim_own hn4 hrest4 (Own.whole HQ.out.1 HB.out.2.2 HQ.out.2.1.symm) HQ.out.2.2.1 HQ.out.2.2.2.2).later hb5, ho5.mono HQ.out.2.2.2.1.size, HQ.out.2.2.2.1.trans (below_less hb5 HQ.out.2.2.2.1.size), Parted.made (trim_own hn4 hrest4 (Own.whole (B := 0) HQ.out.1 (Nat.zero_le _) HQ.out.2.1.symm) HQ.out.2.2.1 HQ.out.2.2.2.2) ho5 (Nat.le_refl _)⟩
    · have h1' : ((lb : Int) == 1) = false := by simp; omega
      obtain ⟨n, rfl⟩ : ∃ n, lb = n + 2 := ⟨lb - 2, by omega⟩
      obtain ⟨m, rfl⟩ : ∃ m, la = n + 1 + m := ⟨la - (n + 1), by omega⟩
      clear hx hy
      go_enter Tryz.func128, Tryz.ntmps128
      go_wp2_with (first
        | (go_at_call 134; refine hcmp.mono ?_; rintro e w1 ⟨rfl, hb1⟩)
        | (go_at_call 144; refine (divideLong_any ao bo m ca n cb a b w1 (HX.out.1.later hb1) (HX.out.2.later hb1) hl (by omega)).mono ?_; rintro e w2 ⟨ao4, n4, cap4, ao5, n5, cap5, rfl, ho4, ho5, hb2, hpt⟩))
      go_ret2
      exact ⟨ao4, n4, cap4, ao5, n5, cap5, rfl, ho4.mono hb1.size, ho5.mono hb1.size, hb1.trans (below_less hb2 hb1.size), hpt⟩
end Go.Proofs.YtiiefpnkpfliiaaGreatDoor

/- Walks: shiftDown. -/
namespace Go.Proofs.YtiiefpnkpfliiaaGreatDoor
open Go.RowKit
set_option linter.unusedVariables false
set_option linter.unusedSimpArgs false

theorem RowAt.drop {w : World} {k : IntKind} {b o len cap : Nat} {zs : List Int} (h : RowAt w k (some ⟨b, o, none⟩) len cap zs) {j : Nat} (hj : j < len) : RowAt w k (some ⟨b, o + j, none⟩) (len - j) (cap - j) (zs.drop j) := by
  obtain ⟨b', o', e, hlt, hc⟩ := h.get (by omega)
  cases e
  refine ⟨by simp [h.hlen], by have := h.hcap; omega, (fun e => by cases e), Or.inr ⟨b, o + j, rfl, hlt, fun t ht => ?_⟩⟩
  have := hc (j + t) (by omega)
  rw [dig_drop, Nat.add_assoc]; exact this

theorem down_end {a n l : Nat} {r : Int} {L0 L' : List Int} (hl : l = (mag a).length) (hj : n / 64 < l) (hl0 : L0.length = l - n / 64) (h : QuoSt 18446744073709551616 L0 ((mag a).drop (n / 64)) (2 ^ (n % 64)) 0 (l - n / 64) 0 r L') : val 18446744073709551616 L' = ((a / 2 ^ n : Nat) : Int) := by
  have e := h.eq
  rw [Nat.sub_zero, Nat.zero_add, V_all _ (by rw [h.len, hl0]), V_all _ (by simp [hl])] at e
  have e2 := val_take_drop 18446744073709551616 (mag a) (n / 64) (by omega)
  rw [mag_val] at e2
  have h3 := val_lt (q := 18446744073709551616) (by decide) ((mag_wd a).take (n / 64))
  have h4 := val_nonneg (q := 18446744073709551616) (by decide) ((mag_wd a).take (n / 64))
  rw [List.length_take, Nat.min_eq_left (by omega)] at h3
  obtain ⟨D, hD⟩ : ∃ D, val 18446744073709551616 ((mag a).drop (n / 64)) = D := ⟨_, rfl⟩
  obtain ⟨T, hT⟩ : ∃ T, val 18446744073709551616 ((mag a).take (n / 64)) = T := ⟨_, rfl⟩
  rw [hD] at e e2; rw [hT] at e2 h3 h4
  obtain ⟨P, hP⟩ : ∃ P : Int, (18446744073709551616 : Int) ^ (n / 64) = P := ⟨_, rfl⟩
  obtain ⟨S, hS⟩ : ∃ S : Int, (2 : Int) ^ (n % 64) = S := ⟨_, rfl⟩
  have hPS : P * S = ((2 ^ n : Nat) : Int) := by
    rw [← hP, ← hS, show (18446744073709551616 : Int) = 2 ^ 64 from rfl, ← Int.pow_mul, ← Int.pow_add, Int.natCast_pow]
    congr 1; omega
  have r0 := h.r0
  have r1 := h.r1
  rw [hS] at e r1; rw [hP] at e2 h3
  have hP0 : 0 < P := by rw [← hP]; exact Int.pow_pos (by decide)
  have k1 : P * r + P ≤ P * S := by
    have : P * (r + 1) ≤ P * S := Int.mul_le_mul_of_nonneg_left (by omega) (by omega)
    rw [Int.mul_add, Int.mul_one] at this; exact this
  have k2 : 0 ≤ P * r := Int.mul_nonneg (by omega) r0
  have k3 : val 18446744073709551616 L' * ((2 ^ n : Nat) : Int) + (P * r + T) = (a : Int) := by
    rw [e2, ← e, ← hPS]; grind
  exact (nat_div_of k3 (by omega) (by rw [← hPS]; omega)).1

end Go.Proofs.YtiiefpnkpfliiaaGreatDoor

/- Walks: shiftUp. -/
namespace Go.Proofs.YtiiefpnkpfliiaaGreatDoor
open Go.RowKit
set_option linter.unusedVariables false
set_option linter.unusedSimpArgs false

theorem up_end {a n l : Nat} {c : Int} {L0 L' : List Int} (hl : l = (mag a).length) (hl0 : L0 = List.replicate (l + n / 64 + 1) 0) (h : UpSt 18446744073709551616 L0 (mag a) (2 ^ (n % 64)) (n / 64) l c L') :
    val 18446744073709551616 (L'.set (l + n / 64) c) = ((a * 2 ^ n : Nat) : Int) ∧ Wd 18446744073709551616 (L'.set (l + n / 64) c) ∧ (L'.set (l + n / 64) c).length = l + n / 64 + 1 := by
  obtain ⟨j, hj⟩ : ∃ j, n / 64 = j := ⟨_, rfl⟩
  rw [hj] at h hl0 ⊢
  have hlen : L'.length = l + j + 1 := by rw [h.len, hl0]; simp
  have e := h.eq
  rw [hl, List.take_length, mag_val, ← hl] at e
  have h1 : c < 18446744073709551616 := by
    have h2 := h.c1
    have h3 : (2 : Int) ^ (n % 64) ≤ 2 ^ 64 := pow_mono' (by decide) (by omega)
    omega
  refine ⟨?_, h.wd.set _ ⟨h.c0, h1⟩, by simp [hlen]⟩
  rw [← V_all 18446744073709551616 (n := j + (l + 1)) (by simp [hlen]; omega), V_split, V_zeros (fun i hi => ?_), Int.zero_add, Nat.zero_add, V_succ]
  · rw [show j + l = l + j by omega, dig_set _ (by omega), if_pos rfl]
    have e1 : V 18446744073709551616 (L'.set (l + j) c) j l = V 18446744073709551616 L' j l := V_congr fun i hi => by rw [dig_set _ (by omega), if_neg (by omega)]
    rw [e1, show (18446744073709551616 : Int) ^ l * c = c * 18446744073709551616 ^ l from Int.mul_comm _ _, e, Int.natCast_mul, Int.natCast_pow, show (18446744073709551616 : Int) = 2 ^ 64 from rfl, ← Int.pow_mul, ← Int.mul_assoc, ← Int.pow_add, show 64 * j + n % 64 = n by omega]
    exact Int.mul_comm _ _
  · rw [dig_set _ (by omega), if_neg (by omega), h.out _ (by omega), hl0, dig_zeros]

end Go.Proofs.YtiiefpnkpfliiaaGreatDoor

/- Mathematics of powers and roots. -/
namespace Go.Proofs.YtiiefpnkpfliiaaGreatDoor
set_option linter.unusedVariables false
set_option linter.unusedSimpArgs false

theorem npow_le {a b : Nat} (n : Nat) (h : a ≤ b) : a ^ n ≤ b ^ n := Nat.pow_le_pow_left h n
theorem am_gm (s r m : Nat) : (m + 1) * s * r ^ m ≤ s ^ (m + 1) + m * r ^ (m + 1) := by
  induction m with
  | zero => simp
  | succ m ih =>
    have h1 : (m + 1) * s * r ^ m * r ≤ (s ^ (m + 1) + m * r ^ (m + 1)) * r := Nat.mul_le_mul_right r ih
    have h2 : s * r ^ (m + 1) + s ^ (m + 1) * r ≤ s * s ^ (m + 1) + r * r ^ (m + 1) := by
      generalize hx : s ^ (m + 1) = x
      generalize hy : r ^ (m + 1) = y
      rcases Nat.le_total s r with h | h
      · have h3 : x ≤ y := by rw [← hx, ← hy]; exact npow_le _ h
        obtain ⟨d, rfl⟩ := Nat.exists_eq_add_of_le h
        obtain ⟨e, rfl⟩ := Nat.exists_eq_add_of_le h3
        grind
      · have h3 : y ≤ x := by rw [← hx, ← hy]; exact npow_le _ h
        obtain ⟨d, rfl⟩ := Nat.exists_eq_add_of_le h
        obtain ⟨e, rfl⟩ := Nat.exists_eq_add_of_le h3
        grind
    rw [Nat.pow_succ s (m + 1), Nat.pow_succ r (m + 1)]
    rw [Nat.pow_succ r m] at h1 h2 ⊢
    generalize r ^ m = p at *
    generalize s ^ (m + 1) = x at *
    grind

/-- one step of Newton's way from above -/
theorem step_above {x r m : Nat} (hr : 0 < r) : x < ((m * r + x / r ^ m) / (m + 1) + 1) ^ (m + 1) := by
  generalize hs : (m * r + x / r ^ m) / (m + 1) + 1 = s
  have hp : 0 < r ^ m := Nat.pow_pos hr
  have h1 := am_gm s r m
  have h2 : m * r + x / r ^ m < (m + 1) * s := by
    rw [← hs]; exact Nat.lt_mul_div_succ _ (by omega)
  have h3 : x < r ^ m * (x / r ^ m + 1) := Nat.lt_mul_div_succ x hp
  have h4 : (m * r + x / r ^ m + 1) * r ^ m ≤ (m + 1) * s * r ^ m := Nat.mul_le_mul_right _ h2
  rw [Nat.pow_succ r m] at h1
  generalize r ^ m = p at *
  generalize x / p = q at *
  generalize s ^ (m + 1) = y at *
  have h5 : (m * r + q + 1) * p = m * (p * r) + p * (q + 1) := by grind
  omega
theorem step_stop {x r m : Nat} (hr : 0 < r) (h : r ≤ (m * r + x / r ^ m) / (m + 1)) : r ^ (m + 1) ≤ x := by
  have hp : 0 < r ^ m := Nat.pow_pos hr
  have h1 := (Nat.le_div_iff_mul_le (by omega)).1 h
  have h2 : r * (m + 1) = m * r + r := by grind
  have h3 : r ≤ x / r ^ m := by omega
  have h4 := (Nat.le_div_iff_mul_le hp).1 h3
  rw [Nat.pow_succ, Nat.mul_comm]; exact h4

/-- the greatest number whose n-th power is not above x -/
def IsRoot (x n r : Nat) : Prop := r ^ n ≤ x ∧ x < (r + 1) ^ n
theorem root_unique {x n r s : Nat} (h : IsRoot x n r) (k : IsRoot x n s) : r = s := by
  rcases Nat.lt_trichotomy r s with h1 | h1 | h1
  · have := npow_le n (show r + 1 ≤ s from h1)
    have := h.2; have := k.1; omega
  · exact h1
  · have := npow_le n (show s + 1 ≤ r from h1)
    have := k.2; have := h.1; omega

/-- the loop's start: above the root, and its power not far above the number -/
def Start (x n s : Nat) : Prop := 0 < s ∧ x < s ^ n ∧ s ^ n ≤ 2 ^ n * x
theorem start_bits {x n l : Nat} (hn : 0 < n) (h0 : 2 ^ (l - 1) ≤ x) (h1 : x < 2 ^ l) (hl : 0 < l) : Start x n (2 ^ ((l + n - 1) / n)) := by
  have e1 : l ≤ (l + n - 1) / n * n := by
    have := Nat.div_add_mod (l + n - 1) n
    have := Nat.mod_lt (l + n - 1) hn
    rw [Nat.mul_comm]; omega
  have e2 : (l + n - 1) / n * n ≤ n + (l - 1) := by
    have := Nat.div_mul_le_self (l + n - 1) n
    omega
  refine ⟨Nat.pow_pos (by decide), ?_, ?_⟩
  · rw [← Nat.pow_mul]
    exact Nat.lt_of_lt_of_le h1 (Nat.pow_le_pow_right (by decide) e1)
  · rw [← Nat.pow_mul]
    refine Nat.le_trans (Nat.pow_le_pow_right (by decide) e2) ?_
    rw [Nat.pow_add]
    exact Nat.mul_le_mul_left _ h0
theorem start_half {x n h t : Nat} (ht : IsRoot (x / 2 ^ (n * h)) n t) (h1 : 0 < t) : Start x n ((t + 1) * 2 ^ h) := by
  have hp : 0 < 2 ^ (n * h) := Nat.pow_pos (by decide)
  have e : ((t + 1) * 2 ^ h) ^ n = (t + 1) ^ n * 2 ^ (n * h) := by rw [Nat.mul_pow, ← Nat.pow_mul, Nat.mul_comm h n]
  refine ⟨Nat.mul_pos (by omega) (Nat.pow_pos (by decide)), ?_, ?_⟩
  · rw [e]; exact (Nat.div_lt_iff_lt_mul hp).1 ht.2
  · rw [e]
    have h2 : (t + 1) ^ n ≤ 2 ^ n * t ^ n := by rw [← Nat.mul_pow]; exact npow_le _ (by omega)
    have h3 := Nat.mul_le_mul_right (2 ^ (n * h)) (Nat.le_trans h2 (Nat.mul_le_mul_left _ ht.1))
    refine Nat.le_trans h3 ?_
    rw [Nat.mul_assoc]
    exact Nat.mul_le_mul_left _ (Nat.div_mul_le_self _ _)

/-- powers by squaring -/
theorem pow_half (x n b : Nat) : x ^ (n / 2 ^ b) = x ^ (n / 2 ^ (b + 1)) * x ^ (n / 2 ^ (b + 1)) * x ^ (n / 2 ^ b % 2) := by
  rw [← Nat.pow_add, ← Nat.pow_add]
  congr 1
  rw [Nat.pow_succ, ← Nat.div_div_eq_div_mul]
  omega
theorem pow_sq_le {x n b : Nat} (hx : 0 < x) : x ^ (n / 2 ^ (b + 1)) * x ^ (n / 2 ^ (b + 1)) ≤ x ^ n := by
  rw [← Nat.pow_add]
  refine Nat.pow_le_pow_right hx ?_
  have h1 : n / 2 ^ (b + 1) + n / 2 ^ (b + 1) ≤ n / 2 ^ b := by
    rw [Nat.pow_succ, ← Nat.div_div_eq_div_mul]; omega
  exact Nat.le_trans h1 (Nat.div_le_self _ _)
end Go.Proofs.YtiiefpnkpfliiaaGreatDoor
