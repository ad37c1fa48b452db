/-
  EA, EB, EC, ED.
-/
import Derived.Test.YtdanaebhjkbfmaaGreatPH03
import Derived.Test.YtdanaebhjkbfmaaGreatPH04
import Derived.Lib.RabinKarpLaws
/- Walks: takeOut. -/
namespace Go.Proofs.YtdanaebhjkbfmaaGreat
open Go.RowKit
set_option linter.unusedVariables false
set_option linter.unusedSimpArgs false
end Go.Proofs.YtdanaebhjkbfmaaGreat
/- Walks: takeOut. -/
namespace Go.Proofs.YtdanaebhjkbfmaaGreat
open Go.RowKit
set_option linter.unusedVariables false
set_option linter.unusedSimpArgs false
end Go.Proofs.YtdanaebhjkbfmaaGreat
/- Plain mathematics: Knuth's division, limb by limb. -/
namespace Go.Proofs.YtdanaebhjkbfmaaGreat
open Go.RowKit
set_option linter.unusedVariables false
set_option linter.unusedSimpArgs false
/-- the quotient's digits from place k on lie in Lq; what is left of X lies in Lu, below k + n -/
structure DivSt (q M X : Int) (n m k : Nat) (nu : Nat) (Lu Lq : List Int) : Prop where
  lu : Lu.length = nu
  lq : Lq.length = m
  wu : Wd q Lu
  wq : Wd q Lq
  eq : V q Lq k (m - k) * (q ^ k * M) + V q Lu 0 (k + n) = X
  lt : V q Lu 0 (k + n) < M * q ^ k
theorem DivSt.pre {q M X : Int} {n m k nu : Nat} {Lu Lq : List Int} (hq : 1 < q) (h : DivSt q M X n m (k + 1) nu Lu Lq) : V q Lu k (n + 1) < M * q := by
  have e := h.lt
  rw [show k + 1 + n = k + (n + 1) by omega, V_split, Int.pow_succ, Nat.zero_add] at e
  have h0 := V_nonneg (q := q) (by omega) h.wu 0 k
  have hp : 0 < q ^ k := Int.pow_pos (by omega)
  have e2 : q ^ k * V q Lu k (n + 1) < q ^ k * (M * q) := by
    have : M * (q ^ k * q) = q ^ k * (M * q) := by grind
    omega
  exact Int.lt_of_mul_lt_mul_left e2 (by omega)
theorem DivSt.step {q M X : Int} {n m k nu : Nat} {Lu Lq L' : List Int} {d : Int} (hq : 1 < q) (h : DivSt q M X n m (k + 1) nu Lu Lq) (hk : k < m) (hM : M < q ^ n) (hl : L'.length = Lu.length) (hw : Wd q L')
    (hout : ∀ j, j < k ∨ k + (n + 1) ≤ j → dig L' j = dig Lu j) (hd : 0 ≤ d ∧ d < q) (he : V q L' k (n + 1) + d * M = V q Lu k (n + 1)) (hlt : V q L' k (n + 1) < M) : DivSt q M X n m k nu L' (Lq.set k d) := by
  have hlk : k < Lq.length := by rw [h.lq]; exact hk
  have e0 : V q L' 0 k = V q Lu 0 k := V_congr fun j hj => by rw [hout _ (by omega)]
  have hp : 0 < q ^ k := Int.pow_pos (by omega)
  have hz : V q L' k (n + 1) = V q L' k n := by
    have a1 := V_nonneg (q := q) (by omega) hw k n
    have a2 := hw.dig (by omega) (k + n)
    rw [V_succ] at hlt ⊢
    by_cases h0 : dig L' (k + n) = 0
    · rw [h0]; simp
    · have : q ^ n * 1 ≤ q ^ n * dig L' (k + n) := Int.mul_le_mul_of_nonneg_left (by omega) (Int.le_of_lt (Int.pow_pos (by omega)))
      omega
  refine ⟨by rw [hl, h.lu], by simp [h.lq], hw, h.wq.set _ hd, ?_, ?_⟩
  · rw [show m - k = (m - (k + 1)) + 1 by omega, V_cons, dig_set _ hlk, if_pos rfl]
    have e1 : V q (Lq.set k d) (k + 1) (m - (k + 1)) = V q Lq (k + 1) (m - (k + 1)) := V_congr fun j hj => by rw [dig_set _ hlk, if_neg (by omega)]
    have e2 := h.eq
    rw [show k + 1 + n = k + (n + 1) by omega, V_split, Nat.zero_add, Int.pow_succ, ← he] at e2
    rw [e1, V_split, Nat.zero_add, e0, ← hz]
    grind
  · rw [V_split, Nat.zero_add, ← hz]
    have b1 := V_lt hq hw 0 k
    have : q ^ k * (V q L' k (n + 1) + 1) ≤ q ^ k * M := Int.mul_le_mul_of_nonneg_left (by omega) (by omega)
    rw [Int.mul_add, Int.mul_one] at this
    rw [Int.mul_comm M]; omega
theorem nat_div_of {A B : Nat} {Q R : Int} (h : Q * B + R = A) (hR : 0 ≤ R) (hlt : R < B) : Q = ((A / B : Nat) : Int) ∧ R = ((A % B : Nat) : Int) := by
  have := quot_unique (D := (B : Int)) (N := (A : Int)) (q := Q) (by omega) (by omega) (by rw [Int.add_mul]; omega)
  rw [Int.natCast_ediv, Int.natCast_emod]
  exact ⟨this.1, by rw [← this.2]; omega⟩
end Go.Proofs.YtdanaebhjkbfmaaGreat
/- Walks: divideLong. -/
namespace Go.Proofs.YtdanaebhjkbfmaaGreat
open Go.RowKit
set_option linter.unusedVariables false
set_option linter.unusedSimpArgs false
/-- two slices lie in blocks of their own -/
def Parted (ao bo : Option Addr) : Prop := ∀ p q : Addr, ao = some p → bo = some q → p.block ≠ q.block
theorem Parted.none_ {bo : Option Addr} : Parted none bo := fun p q h => by cases h
theorem Parted.symm {ao bo : Option Addr} (h : Parted ao bo) : Parted bo ao := fun p q hp hq e => h q p hq hp e.symm
/-- the elder one lay there when the younger one was made -/
theorem Parted.made {B B' : Nat} {w w' : World} {t t' : TypeId} {ao bo : Option Addr} {l c l' c' : Nat} {zs ys : List Int} (h : Own B w .u64 t ao l c zs) (k : Own B' w' .u64 t' bo l' c' ys) (hs : w.heap.size ≤ B') : Parted ao bo := by
  intro p q hp hq
  rcases h with ⟨h1, _⟩ | ⟨g, off, cur, h1, h2, h3, _⟩
  · rw [h1] at hp; cases hp
  · rcases k with ⟨k1, _⟩ | ⟨g', off', cur', k1, k2, _⟩
    · rw [k1] at hq; cases hq
    · rw [h1] at hp; rw [k1] at hq
      cases hp; cases hq
      have := heap_lt h3
      show g ≠ g'
      omega
theorem below_less {B B' : Nat} {w w' : World} (h : Below B w w') (hB : B' ≤ B) : Below B' w w' := ⟨h.os, h.tape, h.output, h.size, fun k hk => h.block k (by omega)⟩
theorem trim_own {B : Nat} {w : World} {ao ao' : Option Addr} {n k cap cap' : Nat} {L : List Int} {N : Nat} (hk : k ≤ n) (h : RowAt w .u64 ao' k cap' (L.take k) ∧ Can (L.take k) ∧ (∀ q, val q (L.take k) = val q L) ∧ (ao' = ao ∧ cap' = cap ∨ ao' = none ∧ k = 0)) (ho : Own B w .u64 73 ao n cap L) (hW : Wd 18446744073709551616 L) (hv : val 18446744073709551616 L = N) : Own B w .u64 73 ao' k cap' (mag N) := by
  obtain ⟨hr, hc, hval, hor⟩ := h
  have hm : mag N = L.take k := mag_of (hW.take k) hc (by rw [hval, hv])
  rw [hm]
  rcases hor with ⟨rfl, rfl⟩ | ⟨rfl, rfl⟩
  · exact ho.take hk
  · exact Or.inl ⟨rfl, rfl, hr.hnil rfl, by simp⟩
end Go.Proofs.YtdanaebhjkbfmaaGreat
/-
  EE, EF, EG, EH.
-/
/- Walks: divide. -/
namespace Go.Proofs.YtdanaebhjkbfmaaGreat
open Go.RowKit
set_option linter.unusedVariables false
set_option linter.unusedSimpArgs false
end Go.Proofs.YtdanaebhjkbfmaaGreat
/- Walks: shiftDown. -/
namespace Go.Proofs.YtdanaebhjkbfmaaGreat
open Go.RowKit
set_option linter.unusedVariables false
set_option linter.unusedSimpArgs false
theorem RowAt.drop {w : World} {k : IntKind} {b o len cap : Nat} {zs : List Int} (h : RowAt w k (some ⟨b, o, none⟩) len cap zs) {j : Nat} (hj : j < len) : RowAt w k (some ⟨b, o + j, none⟩) (len - j) (cap - j) (zs.drop j) := by
  obtain ⟨b', o', e, hlt, hc⟩ := h.get (by omega)
  cases e
  refine ⟨by simp [h.hlen], by have := h.hcap; omega, (fun e => by cases e), Or.inr ⟨b, o + j, rfl, hlt, fun t ht => ?_⟩⟩
  have := hc (j + t) (by omega)
  rw [dig_drop, Nat.add_assoc]; exact this
theorem down_end {a n l : Nat} {r : Int} {L0 L' : List Int} (hl : l = (mag a).length) (hj : n / 64 < l) (hl0 : L0.length = l - n / 64) (h : QuoSt 18446744073709551616 L0 ((mag a).drop (n / 64)) (2 ^ (n % 64)) 0 (l - n / 64) 0 r L') : val 18446744073709551616 L' = ((a / 2 ^ n : Nat) : Int) := by
  have e := h.eq
  rw [Nat.sub_zero, Nat.zero_add, V_all _ (by rw [h.len, hl0]), V_all _ (by simp [hl])] at e
  have e2 := val_take_drop 18446744073709551616 (mag a) (n / 64) (by omega)
  rw [mag_val] at e2
  have h3 := val_lt (q := 18446744073709551616) (by decide) ((mag_wd a).take (n / 64))
  have h4 := val_nonneg (q := 18446744073709551616) (by decide) ((mag_wd a).take (n / 64))
  rw [List.length_take, Nat.min_eq_left (by omega)] at h3
  obtain ⟨D, hD⟩ : ∃ D, val 18446744073709551616 ((mag a).drop (n / 64)) = D := ⟨_, rfl⟩
  obtain ⟨T, hT⟩ : ∃ T, val 18446744073709551616 ((mag a).take (n / 64)) = T := ⟨_, rfl⟩
  rw [hD] at e e2; rw [hT] at e2 h3 h4
  obtain ⟨P, hP⟩ : ∃ P : Int, (18446744073709551616 : Int) ^ (n / 64) = P := ⟨_, rfl⟩
  obtain ⟨S, hS⟩ : ∃ S : Int, (2 : Int) ^ (n % 64) = S := ⟨_, rfl⟩
  have hPS : P * S = ((2 ^ n : Nat) : Int) := by
    rw [← hP, ← hS, show (18446744073709551616 : Int) = 2 ^ 64 from rfl, ← Int.pow_mul, ← Int.pow_add, Int.natCast_pow]
    congr 1; omega
  have r0 := h.r0
  have r1 := h.r1
  rw [hS] at e r1; rw [hP] at e2 h3
  have hP0 : 0 < P := by rw [← hP]; exact Int.pow_pos (by decide)
  have k1 : P * r + P ≤ P * S := by
    have : P * (r + 1) ≤ P * S := Int.mul_le_mul_of_nonneg_left (by omega) (by omega)
    rw [Int.mul_add, Int.mul_one] at this; exact this
  have k2 : 0 ≤ P * r := Int.mul_nonneg (by omega) r0
  have k3 : val 18446744073709551616 L' * ((2 ^ n : Nat) : Int) + (P * r + T) = (a : Int) := by
    rw [e2, ← e, ← hPS]; grind
  exact (nat_div_of k3 (by omega) (by rw [← hPS]; omega)).1
set_option maxRecDepth 100000 in
set_option maxHeartbeats 1000000 in
theorem shiftDown_any (ao : Option Addr) (la ca n : Nat) (a : Nat) (w : World) (hx : RowAt w .u64 ao la ca (mag a)) (hl : la ≤ 4294967296) (hn : n < 9223372036854775807) :
    Calls Tryz.prog 109 #[.slice ao la ca, .int .i64 (n : Int)] w fun e w' => NewNat w w' e (a / 2 ^ n) := by
  obtain ⟨i0, hi, hz0, hz1, hz2⟩ := info_parts info64
  have hdiv : (n : Int).tdiv 64 = ((n / 64 : Nat) : Int) := by rw [Int.tdiv_eq_ediv_of_nonneg (by omega)]; omega
  have hmod : (n : Int).tmod 64 = ((n % 64 : Nat) : Int) := by rw [Int.tmod_eq_emod_of_nonneg (by omega)]; omega
  obtain ⟨j, hj⟩ : ∃ j, n / 64 = j := ⟨_, rfl⟩
  obtain ⟨s, hs⟩ : ∃ s, n % 64 = s := ⟨_, rfl⟩
  have hs64 : s < 64 := by omega
  rw [hj] at hdiv; rw [hs] at hmod
  by_cases hge : la ≤ j
  · have HZ : Hid (a / 2 ^ n = 0) := by
      show _ = _
      apply Nat.div_eq_of_lt
      have h1 := mag_len_lt hx.hlen
      have h2 : (18446744073709551616 : Int) ^ la ≤ ((2 ^ n : Nat) : Int) := by
        rw [show (18446744073709551616 : Int) = 2 ^ 64 from rfl, ← Int.pow_mul, Int.natCast_pow]
        exact pow_mono' (by decide) (by omega)
      omega
    clear hx
    go_enter Tryz.func109, Tryz.ntmps109
    go_wp2
    go_ret
    exact ⟨none, 0, 0, rfl, by rw [HZ.out]; exact Own.none_, Below.refl _ _⟩
  · obtain ⟨b, o, rfl, hlt, hc⟩ := hx.get (by omega)
    have hcl := hx.hcap
    have HX : Hid (RowAt w .u64 (some ⟨b, o, none⟩) la ca (mag a)) := hx
    have HJ : Hid (n / 64 = j ∧ n % 64 = s) := ⟨hj, hs⟩
    have b1 : Hid (i0.bytes * (la - j) ≤ 281474976710656) := by show _ ≤ _; rw [hz2]; omega
    have b2 : Hid (la - j ≤ maxLen) := by show _ ≤ _; unfold maxLen; omega
    have b3 : Hid (Wd 18446744073709551616 (List.replicate (la - j) 0)) := wd_zeros (by decide) _
    clear hx hc hj hs
    go_enter Tryz.func109, Tryz.ntmps109
    go_wp2_with (first
      | (at_make; refine wpList_make_full _ rfl (.tmp 16) (.tmp 16) 26 rfl 0 73 i0 (.int .u64 0) 1 Tryz.underlying26 hi hz0 hz1 .i64 .i64 _ _ (la - j) rfl rfl (by omega) (by omega) b1.out b2.out (Nat.zero_le _) ?_; intro w1 hown1 hgrow1; have HB : Hid (Blk w1 w.heap.size .u64 73 (List.replicate (la - j) 0) ∧ Below w.heap.size w w1) := ⟨made_blk hown1, grown_below hgrow1⟩; clear hown1 hgrow1)
      | (go_at_call 119; go_loud (refine (downBits_any w.heap.size 0 (la - j) (la - j) (some ⟨b, o + j, none⟩) (ca - j) (List.replicate (la - j) 0) ((mag a).drop j) s w1 hs64 HB.out.1 b3.out (by simp) (Nat.le_refl _) (by omega) ((HX.out.drop (by omega)).later HB.out.2) ((mag_wd _).drop _) (apart_new (HX.out.drop (by omega)) (Nat.le_refl _))).mono ?_; rintro e w2 ⟨r, L2, rfl, hb2, hq2, ht2⟩; have HQ : Hid (Blk w2 w.heap.size .u64 73 L2 ∧ L2.length = la - j ∧ Wd 18446744073709551616 L2 ∧ Below w.heap.size w w2 ∧ val 18446744073709551616 L2 = ((a / 2 ^ n : Nat) : Int)) := ⟨hb2, (by rw [hq2.len]; simp), hq2.wd, HB.out.2.trans (ht2.below (Nat.le_refl _)), down_end (L0 := List.replicate (la - j) 0) HX.out.hlen (by rw [HJ.out.1]; omega) (by rw [HJ.out.1]; simp) (by rw [HJ.out.1, HJ.out.2]; exact hq2)⟩; clear hb2 hq2 ht2))
      | (go_at_call 106; refine (trim_any (some ⟨w.heap.size, 0, none⟩) (la - j) (la - j) L2 w2 (Own.whole (B := 0) HQ.out.1 (Nat.zero_le _) HQ.out.2.1.symm).row (by omega)).mono ?_; rintro e w4 ⟨hT4, hw4⟩; replace hw4 := hw4.symm; subst hw4; obtain ⟨ao4, n4, cap4, hn4, rfl, hrest4⟩ := hT4))
    go_ret
    exact ⟨ao4, n4, cap4, rfl, trim_own hn4 hrest4 (Own.whole HQ.out.1 (Nat.le_refl _) HQ.out.2.1.symm) HQ.out.2.2.1 HQ.out.2.2.2.2, HQ.out.2.2.2.1⟩
end Go.Proofs.YtdanaebhjkbfmaaGreat
/- Walks: shiftUp. -/
namespace Go.Proofs.YtdanaebhjkbfmaaGreat
open Go.RowKit
set_option linter.unusedVariables false
set_option linter.unusedSimpArgs false
theorem up_end {a n l : Nat} {c : Int} {L0 L' : List Int} (hl : l = (mag a).length) (hl0 : L0 = List.replicate (l + n / 64 + 1) 0) (h : UpSt 18446744073709551616 L0 (mag a) (2 ^ (n % 64)) (n / 64) l c L') :
    val 18446744073709551616 (L'.set (l + n / 64) c) = ((a * 2 ^ n : Nat) : Int) ∧ Wd 18446744073709551616 (L'.set (l + n / 64) c) ∧ (L'.set (l + n / 64) c).length = l + n / 64 + 1 := by
  obtain ⟨j, hj⟩ : ∃ j, n / 64 = j := ⟨_, rfl⟩
  rw [hj] at h hl0 ⊢
  have hlen : L'.length = l + j + 1 := by rw [h.len, hl0]; simp
  have e := h.eq
  rw [hl, List.take_length, mag_val, ← hl] at e
  have h1 : c < 18446744073709551616 := by
    have h2 := h.c1
    have h3 : (2 : Int) ^ (n % 64) ≤ 2 ^ 64 := pow_mono' (by decide) (by omega)
    omega
  refine ⟨?_, h.wd.set _ ⟨h.c0, h1⟩, by simp [hlen]⟩
  rw [← V_all 18446744073709551616 (n := j + (l + 1)) (by simp [hlen]; omega), V_split, V_zeros (fun i hi => ?_), Int.zero_add, Nat.zero_add, V_succ]
  · rw [show j + l = l + j by omega, dig_set _ (by omega), if_pos rfl]
    have e1 : V 18446744073709551616 (L'.set (l + j) c) j l = V 18446744073709551616 L' j l := V_congr fun i hi => by rw [dig_set _ (by omega), if_neg (by omega)]
    rw [e1, show (18446744073709551616 : Int) ^ l * c = c * 18446744073709551616 ^ l from Int.mul_comm _ _, e, Int.natCast_mul, Int.natCast_pow, show (18446744073709551616 : Int) = 2 ^ 64 from rfl, ← Int.pow_mul, ← Int.mul_assoc, ← Int.pow_add, show 64 * j + n % 64 = n by omega]
    exact Int.mul_comm _ _
  · rw [dig_set _ (by omega), if_neg (by omega), h.out _ (by omega), hl0, dig_zeros]
set_option maxRecDepth 100000 in
set_option maxHeartbeats 1000000 in
theorem shiftUp_any (ao : Option Addr) (la ca n : Nat) (a : Nat) (w : World) (hx : RowAt w .u64 ao la ca (mag a)) (hl : la ≤ 4294967296) (hn : n < 274877906944) :
    Calls Tryz.prog 94 #[.slice ao la ca, .int .i64 (n : Int)] w fun e w' => NewNat w w' e (a * 2 ^ n) := by
  obtain ⟨i0, hi, hz0, hz1, hz2⟩ := info_parts info64
  have hdiv : (n : Int).tdiv 64 = ((n / 64 : Nat) : Int) := by rw [Int.tdiv_eq_ediv_of_nonneg (by omega)]; omega
  have hmod : (n : Int).tmod 64 = ((n % 64 : Nat) : Int) := by rw [Int.tmod_eq_emod_of_nonneg (by omega)]; omega
  obtain ⟨j, hj⟩ : ∃ j, n / 64 = j := ⟨_, rfl⟩
  obtain ⟨s, hs⟩ : ∃ s, n % 64 = s := ⟨_, rfl⟩
  have hs64 : s < 64 := by omega
  have hj' : j ≤ 4294967296 := by omega
  rw [hj] at hdiv; rw [hs] at hmod
  by_cases hge : la = 0
  · subst hge
    have HZ : Hid (a * 2 ^ n = 0) := by
      show _ = _
      have : ¬ 0 < a := fun h => by have := mag_len_pos.2 h; rw [← hx.hlen] at this; omega
      rw [show a = 0 by omega, Nat.zero_mul]
    clear hx
    go_enter Tryz.func94, Tryz.ntmps94
    go_wp2
    go_ret
    exact ⟨none, 0, 0, rfl, by rw [HZ.out]; exact Own.none_, Below.refl _ _⟩
  · have HX : Hid (RowAt w .u64 ao la ca (mag a)) := hx
    have HJ : Hid (n / 64 = j ∧ n % 64 = s) := ⟨hj, hs⟩
    have b1 : Hid (i0.bytes * (la + j + 1) ≤ 281474976710656) := by show _ ≤ _; rw [hz2]; omega
    have b2 : Hid (la + j + 1 ≤ maxLen) := by show _ ≤ _; unfold maxLen; omega
    have b3 : Hid (Wd 18446744073709551616 (List.replicate (la + j + 1) 0)) := wd_zeros (by decide) _
    clear hx hj hs
    go_enter Tryz.func94, Tryz.ntmps94
    go_wp2_with (first
      | (at_make; refine wpList_make_full _ rfl (.tmp 16) (.tmp 16) 26 rfl 0 73 i0 (.int .u64 0) 1 Tryz.underlying26 hi hz0 hz1 .i64 .i64 _ _ (la + j + 1) rfl rfl (by omega) (by omega) b1.out b2.out (Nat.zero_le _) ?_; intro w1 hown1 hgrow1; have HB : Hid (Blk w1 w.heap.size .u64 73 (List.replicate (la + j + 1) 0) ∧ Below w.heap.size w w1) := ⟨made_blk hown1, grown_below hgrow1⟩; clear hown1 hgrow1)
      | (go_at_call 105; refine (upBits_any w.heap.size j la (la + j + 1 - j) ao la ca (List.replicate (la + j + 1) 0) (mag a) s w1 hs64 HB.out.1 b3.out (by simp; omega) (by omega) (by omega) (HX.out.later HB.out.2) (mag_wd _) (Nat.le_refl _) (apart_new HX.out (Nat.le_refl _))).mono ?_; rintro e w2 ⟨c1, L1, rfl, hb1, hu1, ht1⟩; have HU : Hid (UpSt 18446744073709551616 (List.replicate (la + j + 1) 0) (mag a) (2 ^ s) j la c1 L1 ∧ Blk w2 w.heap.size .u64 73 L1 ∧ Below w.heap.size w w2) := ⟨hu1, hb1, HB.out.2.trans (ht1.below (Nat.le_refl _))⟩; have hcz := hb1.cell (j := la + j) (by have := hu1.len; simp at this; omega); have hfz := hb1.frozen (la + j); have hgs : w.heap.size < w2.heap.size := hb1.lt; clear hb1 hu1 ht1)
      | (go_at_call 106; have hE := up_end (n := n) HX.out.hlen (by rw [HJ.out.1]) (by rw [HJ.out.1, HJ.out.2]; exact HU.out.1); rw [HJ.out.1] at hE; have HE : Hid (Blk (w2.setCell ⟨w.heap.size, la + j, none⟩ (.int .u64 c1)) w.heap.size .u64 73 (L1.set (la + j) c1) ∧ Below w.heap.size w (w2.setCell ⟨w.heap.size, la + j, none⟩ (.int .u64 c1))) := ⟨HU.out.2.1.set _ _, HU.out.2.2.trans (((Touch.refl _ _).set _ _).below (Nat.le_refl _))⟩; refine (trim_any (some ⟨w.heap.size, 0, none⟩) (la + j + 1) (la + j + 1) (L1.set (la + j) c1) _ (Own.whole (B := 0) HE.out.1 (Nat.zero_le _) hE.2.2.symm).row (by omega)).mono ?_; rintro e w4 ⟨hT4, hw4⟩; replace hw4 := hw4.symm; subst hw4; obtain ⟨ao4, n4, cap4, hn4, rfl, hrest4⟩ := hT4))
    go_ret
    exact ⟨ao4, n4, cap4, rfl, trim_own hn4 hrest4 (Own.whole HE.out.1 (Nat.le_refl _) hE.2.2.symm) hE.2.1 hE.1, HE.out.2⟩
end Go.Proofs.YtdanaebhjkbfmaaGreat
/- Mathematics of powers and roots. -/
namespace Go.Proofs.YtdanaebhjkbfmaaGreat
set_option linter.unusedVariables false
set_option linter.unusedSimpArgs false
end Go.Proofs.YtdanaebhjkbfmaaGreat
/-
  Walks: power (short numbers).
-/
namespace Go.Proofs.YtdanaebhjkbfmaaGreat
open Go.RowKit Go.Shelf
set_option linter.unusedVariables false
set_option linter.unusedSimpArgs false
theorem mag_len_mul (a b : Nat) : (mag (a * b)).length ≤ (mag a).length + (mag b).length := by
  apply mag_len_le
  have h1 := mag_len_lt (n := a) rfl
  have h2 := mag_len_lt (n := b) rfl
  rw [Int.natCast_mul, Int.pow_add]
  by_cases hb : b = 0
  · subst hb
    rw [Int.natCast_zero, Int.mul_zero]
    exact Int.mul_pos (Int.pow_pos (by decide)) (Int.pow_pos (by decide))
  · exact Int.lt_of_lt_of_le (Int.mul_lt_mul_of_pos_right h1 (by omega)) (Int.mul_le_mul_of_nonneg_left (Int.le_of_lt h2) (Int.le_of_lt (Int.pow_pos (by decide))))
end Go.Proofs.YtdanaebhjkbfmaaGreat
/-
  EJ, EK, EL.
-/
/- Walks: rootStep (short numbers). -/
namespace Go.Proofs.YtdanaebhjkbfmaaGreat
open Go.RowKit Go.Shelf
set_option linter.unusedVariables false
set_option linter.unusedSimpArgs false
/-- a row of one word, just laid -/
theorem one_row (w : World) (n : Nat) (h0 : 0 < n) (h1 : n < 18446744073709551616) : Own w.heap.size (w.alloc (.cells #[.int .u64 (n : Int)] 73)) .u64 73 (some ⟨w.heap.size, 0, none⟩) 1 1 (mag n) := by
  rw [mag_one h0 h1]
  exact Own.whole (Blk.new w .u64 73 [(n : Int)]) (Nat.le_refl _) rfl
theorem one_row' (w : World) (n : Nat) (v : Int) (hv : v = (n : Int)) (h0 : 0 < n) (h1 : n < 18446744073709551616) : Own w.heap.size (w.alloc (.cells #[.int .u64 v] 73)) .u64 73 (some ⟨w.heap.size, 0, none⟩) 1 1 (mag n) ∧ Below w.heap.size w (w.alloc (.cells #[.int .u64 v] 73)) := by
  subst hv; exact ⟨one_row w n h0 h1, (Below.refl _ _).alloc (Nat.le_refl _) _⟩
end Go.Proofs.YtdanaebhjkbfmaaGreat
/- Walks: rootStart, root (short numbers). -/
namespace Go.Proofs.YtdanaebhjkbfmaaGreat
open Go.RowKit Go.Shelf
set_option linter.unusedVariables false
set_option linter.unusedSimpArgs false
/-- how many bits a number has -/
theorem row_bits {a la : Nat} (h0 : 0 < a) (hl : la = (mag a).length) : ∃ l : Nat, rowBits la (dig (mag a) (la - 1)) = (l : Int) ∧ 1 ≤ l ∧ l ≤ 64 * la ∧ 2 ^ (l - 1) ≤ a ∧ a < 2 ^ l := by
  have hp : 0 < la := by rw [hl]; exact mag_len_pos.2 h0
  obtain ⟨k, rfl⟩ : ∃ k, la = k + 1 := ⟨la - 1, by omega⟩
  rw [Nat.add_sub_cancel]
  have hv := mag_val a
  rw [← V_all 18446744073709551616 hl, V_succ, Nat.zero_add] at hv
  have h1 := V_nonneg (q := 18446744073709551616) (by decide) (mag_wd a) 0 k
  have h2 := V_lt (q := 18446744073709551616) (by decide) (mag_wd a) 0 k
  have hz := (mag_wd a).dig (by decide) k
  have hne : mag a ≠ [] := fun e => by rw [e] at hl; simp at hl
  have htop : dig (mag a) k ≠ 0 := by
    have h1 := mag_can a
    obtain ⟨r, t, ht⟩ := snoc_of hne
    rw [ht] at h1 hl ⊢
    have : k = r.length := by simp at hl; omega
    rw [this]; simp [dig]; exact can_snoc.1 h1
  obtain ⟨z, hze⟩ : ∃ z, dig (mag a) k = z := ⟨_, rfl⟩
  obtain ⟨v, hve⟩ : ∃ v, V 18446744073709551616 (mag a) 0 k = v := ⟨_, rfl⟩
  rw [hze] at hv hz htop; rw [hve] at hv h1 h2
  rw [hze]
  obtain ⟨z, rfl⟩ := Int.eq_ofNat_of_zero_le hz.1
  obtain ⟨v, rfl⟩ := Int.eq_ofNat_of_zero_le h1
  obtain ⟨b1, b2, b3⟩ := bitLen_bounds (y := z) (by omega) (by omega)
  have b4 : Lib.bitLen z ≤ 64 := Lib.bitLen_le z 64 (by omega) (by omega)
  unfold rowBits
  rw [if_neg (by omega), Int.toNat_natCast]
  obtain ⟨B, hB⟩ : ∃ B, Lib.bitLen z = B := ⟨_, rfl⟩
  rw [hB] at b1 b2 b3 b4 ⊢
  have hq : (18446744073709551616 : Int) ^ k = ((2 ^ (64 * k) : Nat) : Int) := by rw [Int.natCast_pow, show (18446744073709551616 : Int) = 2 ^ 64 from rfl, ← Int.pow_mul]; rfl
  rw [hq] at hv h2
  have hv' : a = v + 2 ^ (64 * k) * z := by
    have : (a : Int) = ((v + 2 ^ (64 * k) * z : Nat) : Int) := by rw [← hv, Int.natCast_add, Int.natCast_mul]
    exact Int.ofNat.inj this
  have h2' : v < 2 ^ (64 * k) := by omega
  refine ⟨64 * k + B, by omega, by omega, by omega, ?_, ?_⟩
  · rw [show 64 * k + B - 1 = 64 * k + (B - 1) by omega, Nat.pow_add]
    have := Nat.mul_le_mul_left (2 ^ (64 * k)) b2
    omega
  · rw [Nat.pow_add]
    have := Nat.mul_le_mul_left (2 ^ (64 * k)) (show z + 1 ≤ 2 ^ B from b3)
    rw [Nat.mul_add, Nat.mul_one] at this
    omega
end Go.Proofs.YtdanaebhjkbfmaaGreat
/- Walks: root (short numbers). -/
namespace Go.Proofs.YtdanaebhjkbfmaaGreat
open Go.RowKit Go.Shelf
set_option linter.unusedVariables false
set_option linter.unusedSimpArgs false
end Go.Proofs.YtdanaebhjkbfmaaGreat
/-
  EM, EN, EO.
-/
/- Walks: Mul (one factor short), Pow, Root; the laws' add, mul, Within. -/
namespace Go.Proofs.YtdanaebhjkbfmaaGreat
open Go.RowKit Go.Shelf
set_option linter.unusedVariables false
set_option linter.unusedSimpArgs false
theorem sgn_mul {na nb : Bool} {a b : Int} (ha : na = sgB a) (hb : nb = sgB b) : a * b = sgn (na != nb) (a.natAbs * b.natAbs) := by
  have h1 := sgn_of ha
  have h2 := sgn_of hb
  unfold sgn at h1 h2 ⊢
  rw [Int.natCast_mul]
  cases na <;> cases nb <;> simp at h1 h2 ⊢
  · rw [h1, h2]
  · rw [h1, ← Int.mul_neg, h2]
  · rw [h2, ← Int.neg_mul, h1]
  · rw [← Int.neg_mul_neg a b, show -a = (a.natAbs : Int) by omega, show -b = (b.natAbs : Int) by omega]
end Go.Proofs.YtdanaebhjkbfmaaGreat
/- Walks: Pow, Root (short numbers); the laws' mul, add, Within. -/
namespace Go.Proofs.YtdanaebhjkbfmaaGreat
open Go.RowKit Go.Shelf
set_option linter.unusedVariables false
set_option linter.unusedSimpArgs false
theorem NewInt.err {w w' : World} {x : Value} {v : Int} (h : NewInt w w' (.returned x) v) : NewIntErr w w' (.returned (.tuple #[x, .int .i64 0])) v := by
  obtain ⟨n9, ao9, l9, c9, he9, hrest9⟩ := h
  simp only [Ending.returned.injEq] at he9
  subst he9
  exact ⟨n9, ao9, l9, c9, rfl, hrest9⟩
end Go.Proofs.YtdanaebhjkbfmaaGreat
/- Walks: the laws' mul, add, Within. -/
namespace Go.Proofs.YtdanaebhjkbfmaaGreat
open Go.RowKit Go.Shelf
set_option linter.unusedVariables false
set_option linter.unusedSimpArgs false
end Go.Proofs.YtdanaebhjkbfmaaGreat
/-
  Walks: wakes.
-/
namespace Go.Proofs.YtdanaebhjkbfmaaGreat
open Go.RowKit
set_option linter.unusedVariables false
set_option linter.unusedSimpArgs false
theorem Own.int {B : Nat} {w : World} {neg : Bool} {ao : Option Addr} {l c : Nat} {v : Int} (h : Own B w .u64 73 ao l c (mag v.natAbs)) (hs : neg = sgB v) : IntAt w neg ao l c v := ⟨hs, h.row⟩
/-- two numbers are alike just if they are equal -/
theorem eqint_at (na nb : Bool) (ao bo : Option Addr) (la ca lb cb : Nat) (a b : Int) (w : World) (hx : IntAt w na ao la ca a) (hy : IntAt w nb bo lb cb b) (hl : la ≤ 4611686018427387904) (c : Bool) (hc : decide (a = b) = c) :
    Calls Tryz.prog 82 #[.agg #[.bool na, .slice ao la ca], .agg #[.bool nb, .slice bo lb cb]] w fun e w' => e = .returned (.bool c) ∧ Below w.heap.size w w' := by
  refine (eqint_any na nb ao bo la ca lb cb _ _ w hx.row hy.row hl).mono fun e w' h => ?_
  have e1 : (decide (na = nb) && decide (mag a.natAbs = mag b.natAbs)) = c := by
    rw [← hc]
    by_cases h1 : a = b
    · subst h1; rw [hx.sg, hy.sg]; simp
    · rw [decide_eq_false h1]
      by_cases h2 : na = nb
      · have h3 : ¬ mag a.natAbs = mag b.natAbs := fun h3 => by
          have := limbs_inj (q := 18446744073709551616) (by decide) h3
          have e1 := sgn_of hx.sg; have e2 := sgn_of hy.sg
          rw [this, h2] at e1
          exact h1 (e1.symm.trans e2)
        simp [h3]
      · simp [h2]
  rw [e1] at h; exact h
end Go.Proofs.YtdanaebhjkbfmaaGreat
/-
  WM, WN, WO.
-/
/- Walks: Small. -/
namespace Go.Proofs.YtdanaebhjkbfmaaGreat
open Go.RowKit
set_option linter.unusedVariables false
set_option linter.unusedSimpArgs false
end Go.Proofs.YtdanaebhjkbfmaaGreat
/- Walks: the page's own Small. -/
namespace Go.Proofs.YtdanaebhjkbfmaaGreat
open Go.RowKit
set_option linter.unusedVariables false
set_option linter.unusedSimpArgs false
end Go.Proofs.YtdanaebhjkbfmaaGreat
/- Walks: the law's own helpers. -/
namespace Go.Proofs.YtdanaebhjkbfmaaGreat
open Go.RowKit
set_option linter.unusedVariables false
set_option linter.unusedSimpArgs false
/-- two numbers and a count, handed in -/
def Five (W : World) (r : Nat) (na nb : Bool) (ao bo : Option Addr) (la ca lb cb : Nat) (n : Int) : Prop :=
  W.cell? ⟨r, 0, none⟩ = some (.bool na) ∧ W.cell? ⟨r, 1, none⟩ = some (.slice ao la ca) ∧ W.cell? ⟨r, 2, none⟩ = some (.bool nb) ∧ W.cell? ⟨r, 3, none⟩ = some (.slice bo lb cb) ∧ W.cell? ⟨r, 4, none⟩ = some (.int .i64 n)
theorem Five.later {W w2 : World} {r : Nat} {na nb : Bool} {ao bo : Option Addr} {la ca lb cb : Nat} {n : Int} (k : Five W r na nb ao bo la ca lb cb n) (h : Below W.heap.size W w2) (hr : r < W.heap.size) : Five w2 r na nb ao bo la ca lb cb n :=
  ⟨(h.cell (p := ⟨r, 0, none⟩) hr).trans k.1, (h.cell (p := ⟨r, 1, none⟩) hr).trans k.2.1, (h.cell (p := ⟨r, 2, none⟩) hr).trans k.2.2.1, (h.cell (p := ⟨r, 3, none⟩) hr).trans k.2.2.2.1, (h.cell (p := ⟨r, 4, none⟩) hr).trans k.2.2.2.2⟩
theorem may_at (neg : Bool) (ao : Option Addr) (len cap : Nat) (zs : List Int) (w : World) (hr : RowAt w .u64 ao len cap zs) (hl : len ≤ 4611686018427387904) (c : Bool) (hc : mayB neg zs = c) :
    Calls Tryz.prog 7 #[.agg #[.bool neg, .slice ao len cap]] w fun e w' => e = .returned (.bool c) ∧ Below w.heap.size w w' := by
  refine (may_any neg ao len cap zs w hr hl).mono fun e w' h => ?_
  rw [hc] at h; exact h
end Go.Proofs.YtdanaebhjkbfmaaGreat
/-
  A list of pairs of numbers, in memory.
-/
namespace Go.Proofs.YtdanaebhjkbfmaaGreat
open Go.RowKit
set_option linter.unusedVariables false
set_option linter.unusedSimpArgs false
/-- two numbers and a count lie in block b from o on: whatever they are -/
def ElemAt (w : World) (b o : Nat) : Prop :=
  ∃ (na nb : Bool) (ao bo : Option Addr) (la ca lb cb : Nat) (n : Int) (x y : List Int),
    (w.cell? ⟨b, o, none⟩ = some (.bool na) ∧ w.cell? ⟨b, o + 1, none⟩ = some (.slice ao la ca) ∧ w.cell? ⟨b, o + 2, none⟩ = some (.bool nb) ∧ w.cell? ⟨b, o + 3, none⟩ = some (.slice bo lb cb) ∧ w.cell? ⟨b, o + 4, none⟩ = some (.int .i64 n)) ∧
    RowAt w .u64 ao la ca x ∧ Wd 18446744073709551616 x ∧ RowAt w .u64 bo lb cb y ∧ Wd 18446744073709551616 y ∧ -9223372036854775808 ≤ n ∧ n ≤ 9223372036854775807
theorem ElemAt.later {w w' : World} {b o : Nat} (h : ElemAt w b o) (hb : Below w.heap.size w w') (hlt : b < w.heap.size) : ElemAt w' b o := by
  obtain ⟨na, nb, ao, bo, la, ca, lb, cb, n, x, y, ⟨h0, h1, h2, h3, h4⟩, hx, wx, hy, wy, hn⟩ := h
  exact ⟨na, nb, ao, bo, la, ca, lb, cb, n, x, y, ⟨(hb.cell (p := ⟨b, o, none⟩) hlt).trans h0, (hb.cell (p := ⟨b, o + 1, none⟩) hlt).trans h1, (hb.cell (p := ⟨b, o + 2, none⟩) hlt).trans h2, (hb.cell (p := ⟨b, o + 3, none⟩) hlt).trans h3, (hb.cell (p := ⟨b, o + 4, none⟩) hlt).trans h4⟩, hx.later hb, wx, hy.later hb, wy, hn⟩
end Go.Proofs.YtdanaebhjkbfmaaGreat
