/-
  A pack of walks and facts: EH, EI, EL, EO, WC, WO, LA0.
-/
import Derived.Test.YtchmdfjmleoajaaGreatPG03
import Derived.Test.YtchmdfjmleoajaaGreatPG04
import Derived.Lib.RabinKarpLaws
set_option maxRecDepth 100000
set_option maxHeartbeats 40000000
set_option linter.unusedVariables false
set_option linter.unusedSimpArgs false
namespace Go.Proofs.YtchmdfjmleoajaaGreat
open Go.RowKit
end Go.Proofs.YtchmdfjmleoajaaGreat
namespace Go.Proofs.YtchmdfjmleoajaaGreat
open Go.RowKit
theorem RowAt.drop {w : World} {k : IntKind} {b o len cap : Nat} {zs : List Int} (h : RowAt w k (some ⟨b, o, none⟩) len cap zs) {j : Nat} (hj : j < len) : RowAt w k (some ⟨b, o + j, none⟩) (len - j) (cap - j) (zs.drop j) := by
 obtain ⟨b', o', e, hlt, hc⟩ := h.get (by omega)
 cases e
 refine ⟨by simp [h.hlen], by have := h.hcap; omega, (fun e => by cases e), Or.inr ⟨b, o + j, rfl, hlt, fun t ht => ?_⟩⟩
 have := hc (j + t) (by omega)
 rw [dig_drop, Nat.add_assoc]; exact this
end Go.Proofs.YtchmdfjmleoajaaGreat
namespace Go.Proofs.YtchmdfjmleoajaaGreat
open Go.RowKit
theorem up_end {a n l : Nat} {c : Int} {L0 L' : List Int} (hl : l = (mag a).length) (hl0 : L0 = List.replicate (l + n / 64 + 1) 0) (h : UpSt 18446744073709551616 L0 (mag a) (2 ^ (n % 64)) (n / 64) l c L') :
  val 18446744073709551616 (L'.set (l + n / 64) c) = ((a * 2 ^ n : Nat) : Int) ∧ Wd 18446744073709551616 (L'.set (l + n / 64) c) ∧ (L'.set (l + n / 64) c).length = l + n / 64 + 1 := by
 obtain ⟨j, hj⟩ : ∃ j, n / 64 = j := ⟨_, rfl⟩
 rw [hj] at h hl0 ⊢
 have hlen : L'.length = l + j + 1 := by rw [h.len, hl0]; simp
 have e := h.eq
 rw [hl, List.take_length, mag_val, ← hl] at e
 have h1 : c < 18446744073709551616 := by
  have h2 := h.c1
  have h3 : (2 : Int) ^ (n % 64) ≤ 2 ^ 64 := pow_mono' (by decide) (by omega)
  omega
 refine ⟨?_, h.wd.set _ ⟨h.c0, h1⟩, by simp [hlen]⟩
 rw [← V_all 18446744073709551616 (n := j + (l + 1)) (by simp [hlen]; omega), V_split, V_zeros (fun i hi => ?_), Int.zero_add, Nat.zero_add, V_succ]
 ·
  rw [show j + l = l + j by omega, dig_set _ (by omega), if_pos rfl]
  have e1 : V 18446744073709551616 (L'.set (l + j) c) j l = V 18446744073709551616 L' j l := V_congr fun i hi => by rw [dig_set _ (by omega), if_neg (by omega)]
  rw [e1, show (18446744073709551616 : Int) ^ l * c = c * 18446744073709551616 ^ l from Int.mul_comm _ _, e, Int.natCast_mul, Int.natCast_pow, show (18446744073709551616 : Int) = 2 ^ 64 from rfl, ← Int.pow_mul, ← Int.mul_assoc, ← Int.pow_add, show 64 * j + n % 64 = n by omega]
  exact Int.mul_comm _ _
 ·
  rw [dig_set _ (by omega), if_neg (by omega), h.out _ (by omega), hl0, dig_zeros]
theorem shiftUp_any (ao : Option Addr) (la ca n : Nat) (a : Nat) (w : World) (hx : RowAt w .u64 ao la ca (mag a)) (hl : la ≤ 4294967296) (hn : n < 274877906944) :
  Calls Tryz.prog 73 #[.slice ao la ca, .int .i64 (n : Int)] w fun e w' => NewNat w w' e (a * 2 ^ n) := by
 obtain ⟨i0, hi, hz0, hz1, hz2⟩ := info_parts info64
 have hdiv : (n : Int).tdiv 64 = ((n / 64 : Nat) : Int) := by rw [Int.tdiv_eq_ediv_of_nonneg (by omega)]; omega
 have hmod : (n : Int).tmod 64 = ((n % 64 : Nat) : Int) := by rw [Int.tmod_eq_emod_of_nonneg (by omega)]; omega
 obtain ⟨j, hj⟩ : ∃ j, n / 64 = j := ⟨_, rfl⟩
 obtain ⟨s, hs⟩ : ∃ s, n % 64 = s := ⟨_, rfl⟩
 have hs64 : s < 64 := by omega
 have hj' : j ≤ 4294967296 := by omega
 rw [hj] at hdiv; rw [hs] at hmod
 by_cases hge : la = 0
 ·
  subst hge
  have HZ : Hid (a * 2 ^ n = 0) := by
   show _ = _
   have : ¬ 0 < a := fun h => by have := mag_len_pos.2 h; rw [← hx.hlen] at this; omega
   rw [show a = 0 by omega, Nat.zero_mul]
  clear hx
  go_enter Tryz.func73, Tryz.ntmps73
  go_wp2
  go_ret
  exact ⟨none, 0, 0, rfl, by rw [HZ.out]; exact Own.none_, Below.refl _ _⟩
 ·
  have HX : Hid (RowAt w .u64 ao la ca (mag a)) := hx
  have HJ : Hid (n / 64 = j ∧ n % 64 = s) := ⟨hj, hs⟩
  have b1 : Hid (i0.bytes * (la + j + 1) ≤ 281474976710656) := by show _ ≤ _; rw [hz2]; omega
  have b2 : Hid (la + j + 1 ≤ maxLen) := by show _ ≤ _; unfold maxLen; omega
  have b3 : Hid (Wd 18446744073709551616 (List.replicate (la + j + 1) 0)) := wd_zeros (by decide) _
  clear hx hj hs
  go_enter Tryz.func73, Tryz.ntmps73
  go_wp2_with (first
   | (at_make; refine wpList_make_full _ rfl (.tmp 16) (.tmp 16) 26 rfl 0 77 i0 (.int .u64 0) 1 Tryz.underlying26 hi hz0 hz1 .i64 .i64 _ _ (la + j + 1) rfl rfl (by omega) (by omega) b1.out b2.out (Nat.zero_le _) ?_; intro w1 hown1 hgrow1; have HB : Hid (Blk w1 w.heap.size .u64 77 (List.replicate (la + j + 1) 0) ∧ Below w.heap.size w w1) := ⟨made_blk hown1, grown_below hgrow1⟩; clear hown1 hgrow1)
   | (go_at_call 80; refine (upBits_any w.heap.size j la (la + j + 1 - j) ao la ca (List.replicate (la + j + 1) 0) (mag a) s w1 hs64 HB.out.1 b3.out (by simp; omega) (by omega) (by omega) (HX.out.later HB.out.2) (mag_wd _) (Nat.le_refl _) (apart_new HX.out (Nat.le_refl _))).mono ?_; rintro e w2 ⟨c1, L1, rfl, hb1, hu1, ht1⟩; have HU : Hid (UpSt 18446744073709551616 (List.replicate (la + j + 1) 0) (mag a) (2 ^ s) j la c1 L1 ∧ Blk w2 w.heap.size .u64 77 L1 ∧ Below w.heap.size w w2) := ⟨hu1, hb1, HB.out.2.trans (ht1.below (Nat.le_refl _))⟩; have hcz := hb1.cell (j := la + j) (by have := hu1.len; simp at this; omega); have hfz := hb1.frozen (la + j); have hgs : w.heap.size < w2.heap.size := hb1.lt; clear hb1 hu1 ht1)
   | (go_at_call 81; have hE := up_end (n := n) HX.out.hlen (by rw [HJ.out.1]) (by rw [HJ.out.1, HJ.out.2]; exact HU.out.1); rw [HJ.out.1] at hE; have HE : Hid (Blk (w2.setCell ⟨w.heap.size, la + j, none⟩ (.int .u64 c1)) w.heap.size .u64 77 (L1.set (la + j) c1) ∧ Below w.heap.size w (w2.setCell ⟨w.heap.size, la + j, none⟩ (.int .u64 c1))) := ⟨HU.out.2.1.set _ _, HU.out.2.2.trans (((Touch.refl _ _).set _ _).below (Nat.le_refl _))⟩; refine (trim_any (some ⟨w.heap.size, 0, none⟩) (la + j + 1) (la + j + 1) (L1.set (la + j) c1) _ (Own.whole (B := 0) HE.out.1 (Nat.zero_le _) hE.2.2.symm).row (by omega)).mono ?_; rintro e w4 ⟨hT4, hw4⟩; replace hw4 := hw4.symm; subst hw4; obtain ⟨ao4, n4, cap4, hn4, rfl, hrest4⟩ := hT4))
  go_ret
  exact ⟨ao4, n4, cap4, rfl, trim_own hn4 hrest4 (Own.whole HE.out.1 (Nat.le_refl _) hE.2.2.symm) hE.2.1 hE.1, HE.out.2⟩
end Go.Proofs.YtchmdfjmleoajaaGreat
namespace Go.Proofs.YtchmdfjmleoajaaGreat
end Go.Proofs.YtchmdfjmleoajaaGreat
namespace Go.Proofs.YtchmdfjmleoajaaGreat
open Go.RowKit Go.Shelf
theorem mag_len_mul (a b : Nat) : (mag (a * b)).length ≤ (mag a).length + (mag b).length := by
 apply mag_len_le
 have h1 := mag_len_lt (n := a) rfl
 have h2 := mag_len_lt (n := b) rfl
 rw [Int.natCast_mul, Int.pow_add]
 by_cases hb : b = 0
 ·
  subst hb
  rw [Int.natCast_zero, Int.mul_zero]
  exact Int.mul_pos (Int.pow_pos (by decide)) (Int.pow_pos (by decide))
 ·
  exact Int.lt_of_lt_of_le (Int.mul_lt_mul_of_pos_right h1 (by omega)) (Int.mul_le_mul_of_nonneg_left (Int.le_of_lt h2) (Int.le_of_lt (Int.pow_pos (by decide))))
end Go.Proofs.YtchmdfjmleoajaaGreat
namespace Go.Proofs.YtchmdfjmleoajaaGreat
open Go.RowKit Go.Shelf
end Go.Proofs.YtchmdfjmleoajaaGreat
namespace Go.Proofs.YtchmdfjmleoajaaGreat
open Go.RowKit Go.Shelf
theorem row_bits {a la : Nat} (h0 : 0 < a) (hl : la = (mag a).length) : ∃ l : Nat, rowBits la (dig (mag a) (la - 1)) = (l : Int) ∧ 1 ≤ l ∧ l ≤ 64 * la ∧ 2 ^ (l - 1) ≤ a ∧ a < 2 ^ l := by
 have hp : 0 < la := by rw [hl]; exact mag_len_pos.2 h0
 obtain ⟨k, rfl⟩ : ∃ k, la = k + 1 := ⟨la - 1, by omega⟩
 rw [Nat.add_sub_cancel]
 have hv := mag_val a
 rw [← V_all 18446744073709551616 hl, V_succ, Nat.zero_add] at hv
 have h1 := V_nonneg (q := 18446744073709551616) (by decide) (mag_wd a) 0 k
 have h2 := V_lt (q := 18446744073709551616) (by decide) (mag_wd a) 0 k
 have hz := (mag_wd a).dig (by decide) k
 have hne : mag a ≠ [] := fun e => by rw [e] at hl; simp at hl
 have htop : dig (mag a) k ≠ 0 := by
  have h1 := mag_can a
  obtain ⟨r, t, ht⟩ := snoc_of hne
  rw [ht] at h1 hl ⊢
  have : k = r.length := by simp at hl; omega
  rw [this]; simp [dig]; exact can_snoc.1 h1
 obtain ⟨z, hze⟩ : ∃ z, dig (mag a) k = z := ⟨_, rfl⟩
 obtain ⟨v, hve⟩ : ∃ v, V 18446744073709551616 (mag a) 0 k = v := ⟨_, rfl⟩
 rw [hze] at hv hz htop; rw [hve] at hv h1 h2
 rw [hze]
 obtain ⟨z, rfl⟩ := Int.eq_ofNat_of_zero_le hz.1
 obtain ⟨v, rfl⟩ := Int.eq_ofNat_of_zero_le h1
 obtain ⟨b1, b2, b3⟩ := bitLen_bounds (y := z) (by omega) (by omega)
 have b4 : Lib.bitLen z ≤ 64 := Lib.bitLen_le z 64 (by omega) (by omega)
 unfold rowBits
 rw [if_neg (by omega), Int.toNat_natCast]
 obtain ⟨B, hB⟩ : ∃ B, Lib.bitLen z = B := ⟨_, rfl⟩
 rw [hB] at b1 b2 b3 b4 ⊢
 have hq : (18446744073709551616 : Int) ^ k = ((2 ^ (64 * k) : Nat) : Int) := by rw [Int.natCast_pow, show (18446744073709551616 : Int) = 2 ^ 64 from rfl, ← Int.pow_mul]; rfl
 rw [hq] at hv h2
 have hv' : a = v + 2 ^ (64 * k) * z := by
  have : (a : Int) = ((v + 2 ^ (64 * k) * z : Nat) : Int) := by rw [← hv, Int.natCast_add, Int.natCast_mul]
  exact Int.ofNat.inj this
 have h2' : v < 2 ^ (64 * k) := by omega
 refine ⟨64 * k + B, by omega, by omega, by omega, ?_, ?_⟩
 ·
  rw [show 64 * k + B - 1 = 64 * k + (B - 1) by omega, Nat.pow_add]
  have := Nat.mul_le_mul_left (2 ^ (64 * k)) b2
  omega
 ·
  rw [Nat.pow_add]
  have := Nat.mul_le_mul_left (2 ^ (64 * k)) (show z + 1 ≤ 2 ^ B from b3)
  rw [Nat.mul_add, Nat.mul_one] at this
  omega
end Go.Proofs.YtchmdfjmleoajaaGreat
namespace Go.Proofs.YtchmdfjmleoajaaGreat
open Go.RowKit Go.Shelf
theorem row_unique {w : World} {ao : Option Addr} {l c s t : Nat} (h : RowAt w .u64 ao l c (mag s)) (k : RowAt w .u64 ao l c (mag t)) : s = t := by
 have e : mag s = mag t := by
  refine dig_ext (by rw [← h.hlen, ← k.hlen]) fun i hi => ?_
  rw [← h.hlen] at hi
  obtain ⟨b, o, rfl, _, h1⟩ := h.get (by omega)
  obtain ⟨b', o', e', _, h2⟩ := k.get (by omega)
  cases e'
  have := (h1 i hi).symm.trans (h2 i hi)
  simpa using this
 have h1 := mag_val s
 rw [e, mag_val] at h1
 exact (Int.ofNat.inj h1).symm
theorem numAt_is : ∃ numAt : Value → World → Nat, Hid (∀ (w : World) (ao : Option Addr) (l c s : Nat), RowAt w .u64 ao l c (mag s) → numAt (.slice ao l c) w = s) := by
 classical
 refine ⟨fun v w => if h : ∃ s ao l c, v = .slice ao l c ∧ RowAt w .u64 ao l c (mag s) then h.choose else 0, ?_⟩
 show ∀ (w : World) (ao : Option Addr) (l c s : Nat), RowAt w .u64 ao l c (mag s) → _
 intro w ao l c s h
 have hx : ∃ s ao' l' c', Value.slice ao l c = .slice ao' l' c' ∧ RowAt w .u64 ao' l' c' (mag s) := ⟨s, ao, l, c, rfl, h⟩
 show (if h : ∃ s ao' l' c', Value.slice ao l c = .slice ao' l' c' ∧ RowAt w .u64 ao' l' c' (mag s) then h.choose else 0) = s
 rw [dif_pos hx]
 obtain ⟨ao', l', c', e, hr⟩ := hx.choose_spec
 cases e
 exact row_unique hr h
end Go.Proofs.YtchmdfjmleoajaaGreat
namespace Go.Proofs.YtchmdfjmleoajaaGreat
open Go.RowKit Go.Shelf
theorem sgn_mul {na nb : Bool} {a b : Int} (ha : na = sgB a) (hb : nb = sgB b) : a * b = sgn (na != nb) (a.natAbs * b.natAbs) := by
 have h1 := sgn_of ha
 have h2 := sgn_of hb
 unfold sgn at h1 h2 ⊢
 rw [Int.natCast_mul]
 cases na <;> cases nb <;> simp at h1 h2 ⊢
 ·
  rw [h1, h2]
 ·
  rw [h1, ← Int.mul_neg, h2]
 ·
  rw [h2, ← Int.neg_mul, h1]
 ·
  rw [← Int.neg_mul_neg a b, show -a = (a.natAbs : Int) by omega, show -b = (b.natAbs : Int) by omega]
end Go.Proofs.YtchmdfjmleoajaaGreat
namespace Go.Proofs.YtchmdfjmleoajaaGreat
open Go.RowKit Go.Shelf
theorem NewInt.err {w w' : World} {x : Value} {v : Int} (h : NewInt w w' (.returned x) v) : NewIntErr w w' (.returned (.tuple #[x, .int .i64 0])) v := by
 obtain ⟨n9, ao9, l9, c9, he9, hrest9⟩ := h
 simp only [Ending.returned.injEq] at he9
 subst he9
 exact ⟨n9, ao9, l9, c9, rfl, hrest9⟩
end Go.Proofs.YtchmdfjmleoajaaGreat
namespace Go.Proofs.YtchmdfjmleoajaaGreat
open Go.RowKit Go.Shelf
theorem within_any (i : Int) (n : Nat) (w : World) (h0 : -9223372036854775808 ≤ i) (h1 : i ≤ 9223372036854775807) (hn : 0 < n) (hn' : n < 4294967296) :
  Calls Tryz.prog 7 #[.int .i64 i, .int .i64 (n : Int)] w fun e w' => ∃ k : Nat, k < n ∧ e = .returned (.int .i64 (k : Int)) ∧ w' = w := by
 obtain ⟨u, hu⟩ : ∃ u : Nat, i % 18446744073709551616 = (u : Int) := ⟨(i % 18446744073709551616).toNat, by omega⟩
 have hw : IntKind.u64.wrap i = (u : Int) := by rw [wrapU, hu]
 have hmod : (u : Int).tmod (n : Int) = ((u % n : Nat) : Int) := by rw [Int.tmod_eq_emod_of_nonneg (by omega), Int.natCast_emod]
 have hk : u % n < n := Nat.mod_lt _ hn
 obtain ⟨k, hke⟩ : ∃ k, u % n = k := ⟨_, rfl⟩
 rw [hke] at hmod hk
 have hn0 : ((n : Int) == 0) = false := by simp; omega
 clear hke hu
 go_enter Tryz.func7, Tryz.ntmps7
 go_wp2
 go_ret
 exact ⟨k, hk, by go_num, rfl⟩
end Go.Proofs.YtchmdfjmleoajaaGreat
namespace Go.Proofs.YtchmdfjmleoajaaGreat
open Go.RowKit
theorem Own.int {B : Nat} {w : World} {neg : Bool} {ao : Option Addr} {l c : Nat} {v : Int} (h : Own B w .u64 77 ao l c (mag v.natAbs)) (hs : neg = sgB v) : IntAt w neg ao l c v := ⟨hs, h.row⟩
theorem eqint_at (na nb : Bool) (ao bo : Option Addr) (la ca lb cb : Nat) (a b : Int) (w : World) (hx : IntAt w na ao la ca a) (hy : IntAt w nb bo lb cb b) (hl : la ≤ 4611686018427387904) (c : Bool) (hc : decide (a = b) = c) :
  Calls Tryz.prog 36 #[.agg #[.bool na, .slice ao la ca], .agg #[.bool nb, .slice bo lb cb]] w fun e w' => e = .returned (.bool c) ∧ Below w.heap.size w w' := by
 refine (eqint_any na nb ao bo la ca lb cb _ _ w hx.row hy.row hl).mono fun e w' h => ?_
 have e1 : (decide (na = nb) && decide (mag a.natAbs = mag b.natAbs)) = c := by
  rw [← hc]
  by_cases h1 : a = b
  ·
   subst h1; rw [hx.sg, hy.sg]; simp
  ·
   rw [decide_eq_false h1]
   by_cases h2 : na = nb
   ·
    have h3 : ¬ mag a.natAbs = mag b.natAbs := fun h3 => by
     have := limbs_inj (q := 18446744073709551616) (by decide) h3
     have e1 := sgn_of hx.sg; have e2 := sgn_of hy.sg
     rw [this, h2] at e1
     exact h1 (e1.symm.trans e2)
    simp [h3]
   ·
    simp [h2]
 rw [e1] at h; exact h
end Go.Proofs.YtchmdfjmleoajaaGreat
namespace Go.Proofs.YtchmdfjmleoajaaGreat
open Go.RowKit
end Go.Proofs.YtchmdfjmleoajaaGreat
namespace Go.Proofs.YtchmdfjmleoajaaGreat
open Go.RowKit
end Go.Proofs.YtchmdfjmleoajaaGreat
namespace Go.Proofs.YtchmdfjmleoajaaGreat
open Go.RowKit
def Five (W : World) (r : Nat) (na nb : Bool) (ao bo : Option Addr) (la ca lb cb : Nat) (n : Int) : Prop :=
 W.cell? ⟨r, 0, none⟩ = some (.bool na) ∧ W.cell? ⟨r, 1, none⟩ = some (.slice ao la ca) ∧ W.cell? ⟨r, 2, none⟩ = some (.bool nb) ∧ W.cell? ⟨r, 3, none⟩ = some (.slice bo lb cb) ∧ W.cell? ⟨r, 4, none⟩ = some (.int .i64 n)
theorem Five.later {W w2 : World} {r : Nat} {na nb : Bool} {ao bo : Option Addr} {la ca lb cb : Nat} {n : Int} (k : Five W r na nb ao bo la ca lb cb n) (h : Below W.heap.size W w2) (hr : r < W.heap.size) : Five w2 r na nb ao bo la ca lb cb n :=
 ⟨(h.cell (p := ⟨r, 0, none⟩) hr).trans k.1, (h.cell (p := ⟨r, 1, none⟩) hr).trans k.2.1, (h.cell (p := ⟨r, 2, none⟩) hr).trans k.2.2.1, (h.cell (p := ⟨r, 3, none⟩) hr).trans k.2.2.2.1, (h.cell (p := ⟨r, 4, none⟩) hr).trans k.2.2.2.2⟩
theorem may_at (neg : Bool) (ao : Option Addr) (len cap : Nat) (zs : List Int) (w : World) (hr : RowAt w .u64 ao len cap zs) (hl : len ≤ 4611686018427387904) (c : Bool) (hc : mayB neg zs = c) :
  Calls Tryz.prog 6 #[.agg #[.bool neg, .slice ao len cap]] w fun e w' => e = .returned (.bool c) ∧ Below w.heap.size w w' := by
 refine (may_any neg ao len cap zs w hr hl).mono fun e w' h => ?_
 rw [hc] at h; exact h
end Go.Proofs.YtchmdfjmleoajaaGreat
namespace Go.Proofs.YtchmdfjmleoajaaGreat
open Go.RowKit
def ElemAt (w : World) (b o : Nat) : Prop :=
 ∃ (na nb : Bool) (ao bo : Option Addr) (la ca lb cb : Nat) (n : Int) (x y : List Int),
  (w.cell? ⟨b, o, none⟩ = some (.bool na) ∧ w.cell? ⟨b, o + 1, none⟩ = some (.slice ao la ca) ∧ w.cell? ⟨b, o + 2, none⟩ = some (.bool nb) ∧ w.cell? ⟨b, o + 3, none⟩ = some (.slice bo lb cb) ∧ w.cell? ⟨b, o + 4, none⟩ = some (.int .i64 n)) ∧
  RowAt w .u64 ao la ca x ∧ Wd 18446744073709551616 x ∧ RowAt w .u64 bo lb cb y ∧ Wd 18446744073709551616 y ∧ -9223372036854775808 ≤ n ∧ n ≤ 9223372036854775807
theorem ElemAt.later {w w' : World} {b o : Nat} (h : ElemAt w b o) (hb : Below w.heap.size w w') (hlt : b < w.heap.size) : ElemAt w' b o := by
 obtain ⟨na, nb, ao, bo, la, ca, lb, cb, n, x, y, ⟨h0, h1, h2, h3, h4⟩, hx, wx, hy, wy, hn⟩ := h
 exact ⟨na, nb, ao, bo, la, ca, lb, cb, n, x, y, ⟨(hb.cell (p := ⟨b, o, none⟩) hlt).trans h0, (hb.cell (p := ⟨b, o + 1, none⟩) hlt).trans h1, (hb.cell (p := ⟨b, o + 2, none⟩) hlt).trans h2, (hb.cell (p := ⟨b, o + 3, none⟩) hlt).trans h3, (hb.cell (p := ⟨b, o + 4, none⟩) hlt).trans h4⟩, hx.later hb, wx, hy.later hb, wy, hn⟩
end Go.Proofs.YtchmdfjmleoajaaGreat
