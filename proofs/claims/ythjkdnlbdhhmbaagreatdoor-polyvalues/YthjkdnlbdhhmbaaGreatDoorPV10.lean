/-
  A pack of walks and facts: EH, EI, EL, EO, WC, WO.
-/
import Derived.Test.YthjkdnlbdhhmbaaGreatDoorPV09
import Derived.Lib.RabinKarpLaws
set_option maxRecDepth 100000
set_option maxHeartbeats 40000000
set_option linter.unusedVariables false
set_option linter.unusedSimpArgs false
namespace Go.Proofs.YthjkdnlbdhhmbaaGreatDoor
open Go.RowKit
theorem quo_end {a b l : Nat} {y r : Int} {L0 L' : List Int} (hl : l = (mag a).length) (hl0 : L0.length = l) (hy : y = (b : Int)) (h : QuoSt 18446744073709551616 L0 (mag a) y 0 l 0 r L') : val 18446744073709551616 L' = ((a / b : Nat) : Int) ∧ r = ((a % b : Nat) : Int) := by
 have e := h.eq
 rw [Nat.sub_zero, Nat.zero_add, V_all _ (by rw [h.len, hl0]), V_all _ hl, mag_val] at e
 have h1 := h.r1
 rw [hy] at e h1
 exact nat_div_of e h.r0 h1
theorem divide_any (ao bo : Option Addr) (la ca lb cb : Nat) (a b : Nat) (w : World) (hx : RowAt w .u64 ao la ca (mag a)) (hy : RowAt w .u64 bo lb cb (mag b)) (hl : la ≤ 4294967296) (hl' : lb ≤ 4294967296) (hb0 : 0 < b) :
  Calls Tryz.prog 112 #[.slice ao la ca, .slice bo lb cb] w fun e w' => TwoNat w w' e (a / b) (a % b) := by
 obtain ⟨i0, hi, hz0, hz1, hz2⟩ := info_parts info64
 by_cases hlt : a < b
 ·
  have hcmp := compare_at ao bo la ca lb cb a b w hx hy hl hl' (-1) (cmpI_lt (by omega))
  have HX : Hid (RowAt w .u64 ao la ca (mag a) ∧ a / b = 0 ∧ a % b = a) := ⟨hx, Nat.div_eq_of_lt hlt, Nat.mod_eq_of_lt hlt⟩
  clear hx hy
  go_enter Tryz.func112, Tryz.ntmps112
  go_wp2_with (first
   | (go_at_call 115; refine hcmp.mono ?_; rintro e w1 ⟨rfl, hb1⟩)
   | (go_at_call 128; refine (clone_any ao la ca (mag a) w1 (HX.out.1.later hb1) hl).mono ?_; rintro e w2 ⟨ao2, l2, c2, rfl, ho2, hb2⟩))
  go_ret2
  exact ⟨none, 0, 0, ao2, l2, c2, rfl, by rw [HX.out.2.1]; exact Own.none_, by rw [HX.out.2.2]; exact ho2.mono hb1.size, hb1.trans (below_less hb2 hb1.size), Parted.none_⟩
 ·
  obtain ⟨c, hc⟩ : ∃ c, cmpI (a : Int) (b : Int) = c := ⟨_, rfl⟩
  have hcmp := compare_at ao bo la ca lb cb a b w hx hy hl hl' c hc
  have hc0 : ¬ c < 0 := by
   rw [← hc]; unfold cmpI; rw [if_neg (by omega)]; split <;> decide
  have hlen : lb ≤ la := by
   have := mag_len_mono (a := a) (b := b) (by omega)
   rw [← hx.hlen, ← hy.hlen] at this; exact this
  have hlb : 0 < lb := by rw [hy.hlen]; exact mag_len_pos.2 hb0
  have HX : Hid (RowAt w .u64 ao la ca (mag a) ∧ RowAt w .u64 bo lb cb (mag b)) := ⟨hx, hy⟩
  clear hc
  by_cases h1 : lb = 1
  ·
   subst h1
   obtain ⟨p, o, rfl, hp, hcp⟩ := hy.get (by omega)
   have k1 := hcp 0 (by omega)
   simp only [Nat.add_zero] at k1
   have n1 := mag_of_one hy.hlen.symm
   obtain ⟨y, hye⟩ : ∃ y, dig (mag b) 0 = y := ⟨_, rfl⟩
   rw [hye] at k1
   have HN : Hid (y = (b : Int)) := by show _ = _; rw [← hye, n1.1]; rfl
   have hy1 : 0 < y := by rw [HN.out]; omega
   have hy2 : y < 18446744073709551616 := by rw [HN.out]; omega
   have b1 : Hid (i0.bytes * la ≤ 281474976710656) := by show _ ≤ _; rw [hz2]; omega
   have b2 : Hid (la ≤ maxLen) := by show _ ≤ _; unfold maxLen; omega
   have b3 : Hid (Wd 18446744073709551616 (List.replicate la 0)) := wd_zeros (by decide) _
   have HR : Hid (a % b < 18446744073709551616) := by
    have := Nat.mod_lt a hb0
    show _ < _; omega
   have KC : Hid (w.cell? ⟨p, o, none⟩ = some (.int .u64 y)) := k1
   clear hx hy hcp n1 hye k1
   go_enter Tryz.func112, Tryz.ntmps112
   go_wp2_with (first
    | (go_at_call 115; refine hcmp.mono ?_; rintro e w1 ⟨rfl, hb1⟩)
    | (at_make; refine wpList_make_full _ rfl (.tmp 20) (.tmp 20) 26 rfl 0 60 i0 (.int .u64 0) 1 Tryz.underlying26 hi hz0 hz1 .i64 .i64 _ _ la rfl rfl (by omega) (by omega) b1.out b2.out (Nat.zero_le _) ?_; intro w2 hown2 hgrow2; have HB : Hid (Blk w2 w1.heap.size .u64 60 (List.replicate la 0) ∧ Below w.heap.size w w2 ∧ w.heap.size ≤ w1.heap.size) := ⟨made_blk hown2, hb1.trans (below_less (grown_below hgrow2) hb1.size), hb1.size⟩; have k2 : w2.cell? ⟨p, o, none⟩ = some (.int .u64 y) := (HB.out.2.1.cell (p := ⟨p, o, none⟩) hp).trans KC.out; clear hown2 hgrow2)
    | (go_at_call 131; refine (divideByLimb_any w1.heap.size 0 la la ao ca (List.replicate la 0) (mag a) y w2 HB.out.1 b3.out (by simp) (Nat.le_refl _) (by omega) (HX.out.1.later HB.out.2.1) (mag_wd _) (apart_new HX.out.1 HB.out.2.2) hy1 hy2).mono ?_; rintro e w3 ⟨r, L3, rfl, hb3, hq3, ht3⟩; have HQ : Hid (Blk w3 w1.heap.size .u64 60 L3 ∧ L3.length = la ∧ Wd 18446744073709551616 L3 ∧ Below w.heap.size w w3 ∧ val 18446744073709551616 L3 = ((a / b : Nat) : Int)) := ⟨hb3, (by rw [hq3.len]; simp), hq3.wd, HB.out.2.1.trans (ht3.below HB.out.2.2), (quo_end HX.out.1.hlen (by simp) HN.out hq3).1⟩; have hr3 := (quo_end HX.out.1.hlen (by simp) HN.out hq3).2; clear hb3 hq3 ht3; subst hr3)
    | (go_at_call 123; refine (trim_any (some ⟨w1.heap.size, 0, none⟩) la la L3 w3 (Own.whole (B := 0) HQ.out.1 (Nat.zero_le _) HQ.out.2.1.symm).row (by omega)).mono ?_; rintro e w4 ⟨hT4, hw4⟩; replace hw4 := hw4.symm; subst hw4; obtain ⟨ao4, n4, cap4, hn4, rfl, hrest4⟩ := hT4)
    | (go_at_call 85; refine (ofLimb_any (a % b) w3 HR.out).mono ?_; rintro e w5 ⟨ao5, n5, cap5, rfl, ho5, hb5⟩))
   go_ret2
   exact ⟨ao4, n4, cap4, ao5, n5, cap5, rfl, (trim_own hn4 hrest4 (Own.whole HQ.out.1 HB.out.2.2 HQ.out.2.1.symm) HQ.out.2.2.1 HQ.out.2.2.2.2).later hb5, ho5.mono HQ.out.2.2.2.1.size, HQ.out.2.2.2.1.trans (below_less hb5 HQ.out.2.2.2.1.size), Parted.made (trim_own hn4 hrest4 (Own.whole (B := 0) HQ.out.1 (Nat.zero_le _) HQ.out.2.1.symm) HQ.out.2.2.1 HQ.out.2.2.2.2) ho5 (Nat.le_refl _)⟩
  ·
   have h1' : ((lb : Int) == 1) = false := by simp; omega
   obtain ⟨n, rfl⟩ : ∃ n, lb = n + 2 := ⟨lb - 2, by omega⟩
   obtain ⟨m, rfl⟩ : ∃ m, la = n + 1 + m := ⟨la - (n + 1), by omega⟩
   clear hx hy
   go_enter Tryz.func112, Tryz.ntmps112
   go_wp2_with (first
    | (go_at_call 115; refine hcmp.mono ?_; rintro e w1 ⟨rfl, hb1⟩)
    | (go_at_call 132; refine (divideLong_any ao bo m ca n cb a b w1 (HX.out.1.later hb1) (HX.out.2.later hb1) hl (by omega)).mono ?_; rintro e w2 ⟨ao4, n4, cap4, ao5, n5, cap5, rfl, ho4, ho5, hb2, hpt⟩))
   go_ret2
   exact ⟨ao4, n4, cap4, ao5, n5, cap5, rfl, ho4.mono hb1.size, ho5.mono hb1.size, hb1.trans (below_less hb2 hb1.size), hpt⟩
open Go.RowKit Go.Shelf
theorem mag_len_mul (a b : Nat) : (mag (a * b)).length ≤ (mag a).length + (mag b).length := by
 apply mag_len_le
 have h1 := mag_len_lt (n := a) rfl
 have h2 := mag_len_lt (n := b) rfl
 rw [Int.natCast_mul, Int.pow_add]
 by_cases hb : b = 0
 ·
  subst hb
  rw [Int.natCast_zero, Int.mul_zero]
  exact Int.mul_pos (Int.pow_pos (by decide)) (Int.pow_pos (by decide))
 ·
  exact Int.lt_of_lt_of_le (Int.mul_lt_mul_of_pos_right h1 (by omega)) (Int.mul_le_mul_of_nonneg_left (Int.le_of_lt h2) (Int.le_of_lt (Int.pow_pos (by decide))))
theorem one_row (w : World) (n : Nat) (h0 : 0 < n) (h1 : n < 18446744073709551616) : Own w.heap.size (w.alloc (.cells #[.int .u64 (n : Int)] 60)) .u64 60 (some ⟨w.heap.size, 0, none⟩) 1 1 (mag n) := by
 rw [mag_one h0 h1]
 exact Own.whole (Blk.new w .u64 60 [(n : Int)]) (Nat.le_refl _) rfl
theorem one_row' (w : World) (n : Nat) (v : Int) (hv : v = (n : Int)) (h0 : 0 < n) (h1 : n < 18446744073709551616) : Own w.heap.size (w.alloc (.cells #[.int .u64 v] 60)) .u64 60 (some ⟨w.heap.size, 0, none⟩) 1 1 (mag n) ∧ Below w.heap.size w (w.alloc (.cells #[.int .u64 v] 60)) := by
 subst hv; exact ⟨one_row w n h0 h1, (Below.refl _ _).alloc (Nat.le_refl _) _⟩
theorem row_bits {a la : Nat} (h0 : 0 < a) (hl : la = (mag a).length) : ∃ l : Nat, rowBits la (dig (mag a) (la - 1)) = (l : Int) ∧ 1 ≤ l ∧ l ≤ 64 * la ∧ 2 ^ (l - 1) ≤ a ∧ a < 2 ^ l := by
 have hp : 0 < la := by rw [hl]; exact mag_len_pos.2 h0
 obtain ⟨k, rfl⟩ : ∃ k, la = k + 1 := ⟨la - 1, by omega⟩
 rw [Nat.add_sub_cancel]
 have hv := mag_val a
 rw [← V_all 18446744073709551616 hl, V_succ, Nat.zero_add] at hv
 have h1 := V_nonneg (q := 18446744073709551616) (by decide) (mag_wd a) 0 k
 have h2 := V_lt (q := 18446744073709551616) (by decide) (mag_wd a) 0 k
 have hz := (mag_wd a).dig (by decide) k
 have hne : mag a ≠ [] := fun e => by rw [e] at hl; simp at hl
 have htop : dig (mag a) k ≠ 0 := by
  have h1 := mag_can a
  obtain ⟨r, t, ht⟩ := snoc_of hne
  rw [ht] at h1 hl ⊢
  have : k = r.length := by simp at hl; omega
  rw [this]; simp [dig]; exact can_snoc.1 h1
 obtain ⟨z, hze⟩ : ∃ z, dig (mag a) k = z := ⟨_, rfl⟩
 obtain ⟨v, hve⟩ : ∃ v, V 18446744073709551616 (mag a) 0 k = v := ⟨_, rfl⟩
 rw [hze] at hv hz htop; rw [hve] at hv h1 h2
 rw [hze]
 obtain ⟨z, rfl⟩ := Int.eq_ofNat_of_zero_le hz.1
 obtain ⟨v, rfl⟩ := Int.eq_ofNat_of_zero_le h1
 obtain ⟨b1, b2, b3⟩ := bitLen_bounds (y := z) (by omega) (by omega)
 have b4 : Lib.bitLen z ≤ 64 := Lib.bitLen_le z 64 (by omega) (by omega)
 unfold rowBits
 rw [if_neg (by omega), Int.toNat_natCast]
 obtain ⟨B, hB⟩ : ∃ B, Lib.bitLen z = B := ⟨_, rfl⟩
 rw [hB] at b1 b2 b3 b4 ⊢
 have hq : (18446744073709551616 : Int) ^ k = ((2 ^ (64 * k) : Nat) : Int) := by rw [Int.natCast_pow, show (18446744073709551616 : Int) = 2 ^ 64 from rfl, ← Int.pow_mul]; rfl
 rw [hq] at hv h2
 have hv' : a = v + 2 ^ (64 * k) * z := by
  have : (a : Int) = ((v + 2 ^ (64 * k) * z : Nat) : Int) := by rw [← hv, Int.natCast_add, Int.natCast_mul]
  exact Int.ofNat.inj this
 have h2' : v < 2 ^ (64 * k) := by omega
 refine ⟨64 * k + B, by omega, by omega, by omega, ?_, ?_⟩
 ·
  rw [show 64 * k + B - 1 = 64 * k + (B - 1) by omega, Nat.pow_add]
  have := Nat.mul_le_mul_left (2 ^ (64 * k)) b2
  omega
 ·
  rw [Nat.pow_add]
  have := Nat.mul_le_mul_left (2 ^ (64 * k)) (show z + 1 ≤ 2 ^ B from b3)
  rw [Nat.mul_add, Nat.mul_one] at this
  omega
theorem row_unique {w : World} {ao : Option Addr} {l c s t : Nat} (h : RowAt w .u64 ao l c (mag s)) (k : RowAt w .u64 ao l c (mag t)) : s = t := by
 have e : mag s = mag t := by
  refine dig_ext (by rw [← h.hlen, ← k.hlen]) fun i hi => ?_
  rw [← h.hlen] at hi
  obtain ⟨b, o, rfl, _, h1⟩ := h.get (by omega)
  obtain ⟨b', o', e', _, h2⟩ := k.get (by omega)
  cases e'
  have := (h1 i hi).symm.trans (h2 i hi)
  simpa using this
 have h1 := mag_val s
 rw [e, mag_val] at h1
 exact (Int.ofNat.inj h1).symm
theorem numAt_is : ∃ numAt : Value → World → Nat, Hid (∀ (w : World) (ao : Option Addr) (l c s : Nat), RowAt w .u64 ao l c (mag s) → numAt (.slice ao l c) w = s) := by
 classical
 refine ⟨fun v w => if h : ∃ s ao l c, v = .slice ao l c ∧ RowAt w .u64 ao l c (mag s) then h.choose else 0, ?_⟩
 show ∀ (w : World) (ao : Option Addr) (l c s : Nat), RowAt w .u64 ao l c (mag s) → _
 intro w ao l c s h
 have hx : ∃ s ao' l' c', Value.slice ao l c = .slice ao' l' c' ∧ RowAt w .u64 ao' l' c' (mag s) := ⟨s, ao, l, c, rfl, h⟩
 show (if h : ∃ s ao' l' c', Value.slice ao l c = .slice ao' l' c' ∧ RowAt w .u64 ao' l' c' (mag s) then h.choose else 0) = s
 rw [dif_pos hx]
 obtain ⟨ao', l', c', e, hr⟩ := hx.choose_spec
 cases e
 exact row_unique hr h
theorem sgn_mul {na nb : Bool} {a b : Int} (ha : na = sgB a) (hb : nb = sgB b) : a * b = sgn (na != nb) (a.natAbs * b.natAbs) := by
 have h1 := sgn_of ha
 have h2 := sgn_of hb
 unfold sgn at h1 h2 ⊢
 rw [Int.natCast_mul]
 cases na <;> cases nb <;> simp at h1 h2 ⊢
 ·
  rw [h1, h2]
 ·
  rw [h1, ← Int.mul_neg, h2]
 ·
  rw [h2, ← Int.neg_mul, h1]
 ·
  rw [← Int.neg_mul_neg a b, show -a = (a.natAbs : Int) by omega, show -b = (b.natAbs : Int) by omega]
theorem Own.int {B : Nat} {w : World} {neg : Bool} {ao : Option Addr} {l c : Nat} {v : Int} (h : Own B w .u64 60 ao l c (mag v.natAbs)) (hs : neg = sgB v) : IntAt w neg ao l c v := ⟨hs, h.row⟩
theorem eqint_at (na nb : Bool) (ao bo : Option Addr) (la ca lb cb : Nat) (a b : Int) (w : World) (hx : IntAt w na ao la ca a) (hy : IntAt w nb bo lb cb b) (hl : la ≤ 4611686018427387904) (c : Bool) (hc : decide (a = b) = c) :
  Calls Tryz.prog 32 #[.agg #[.bool na, .slice ao la ca], .agg #[.bool nb, .slice bo lb cb]] w fun e w' => e = .returned (.bool c) ∧ Below w.heap.size w w' := by
 refine (eqint_any na nb ao bo la ca lb cb _ _ w hx.row hy.row hl).mono fun e w' h => ?_
 have e1 : (decide (na = nb) && decide (mag a.natAbs = mag b.natAbs)) = c := by
  rw [← hc]
  by_cases h1 : a = b
  ·
   subst h1; rw [hx.sg, hy.sg]; simp
  ·
   rw [decide_eq_false h1]
   by_cases h2 : na = nb
   ·
    have h3 : ¬ mag a.natAbs = mag b.natAbs := fun h3 => by
     have := limbs_inj (q := 18446744073709551616) (by decide) h3
     have e1 := sgn_of hx.sg; have e2 := sgn_of hy.sg
     rw [this, h2] at e1
     exact h1 (e1.symm.trans e2)
    simp [h3]
   ·
    simp [h2]
 rw [e1] at h; exact h
theorem may_at (neg : Bool) (ao : Option Addr) (len cap : Nat) (zs : List Int) (w : World) (hr : RowAt w .u64 ao len cap zs) (hl : len ≤ 4611686018427387904) (c : Bool) (hc : mayB neg zs = c) :
  Calls Tryz.prog 23 #[.agg #[.bool neg, .slice ao len cap]] w fun e w' => e = .returned (.bool c) ∧ Below w.heap.size w w' := by
 refine (may_any neg ao len cap zs w hr hl).mono fun e w' h => ?_
 rw [hc] at h; exact h
end Go.Proofs.YthjkdnlbdhhmbaaGreatDoor
