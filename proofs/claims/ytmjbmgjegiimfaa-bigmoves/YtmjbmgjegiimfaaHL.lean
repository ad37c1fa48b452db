/-
  Walks: powers of any length; what is refused of shifts, powers, roots; the page's Left, Pow.
-/
import Derived.Test.YtmjbmgjegiimfaaHJ
import Derived.Test.YtmjbmgjegiimfaaKF
import Derived.Test.YtmjbmgjegiimfaaEO
namespace Go.Proofs.Ytmjbmgjegiimfaa
open Go.RowKit Go.Shelf
set_option linter.unusedVariables false
set_option linter.unusedSimpArgs false

set_option maxRecDepth 100000 in
set_option maxHeartbeats 1000000 in
theorem power_any (ao : Option Addr) (la ca n : Nat) (a : Nat) (w : World) (hx : RowAt w .u64 ao la ca (mag a)) (hn : n < 4294967296) (hl40 : la < 4000) (h40 : (mag (a ^ (n / 2))).length < 4000) :
    Calls Try.prog 37 #[.slice ao la ca, .int .i64 (n : Int)] w fun e w' => NewNat w w' e (a ^ n) := by
  obtain ⟨i0, hi, hz0, hz1, hz2⟩ := info_parts info64
  by_cases h0 : n = 0
  · subst h0
    have hbk : Hid (Blk (w.alloc (.cells #[.int .u64 1] 44)) w.heap.size .u64 44 [1]) := Blk.new w .u64 44 [1]
    have HM : Hid (mag (a ^ 0) = [1]) := by show _ = _; rw [Nat.pow_zero]; exact mag_one (by decide) (by decide)
    go_enter Try.func37, Try.ntmps37
    go_wp2
    go_ret
    exact ⟨_, _, _, rfl, by rw [HM.out]; exact Own.whole hbk.out (Nat.le_refl _) rfl, (Below.refl _ _).alloc (Nat.le_refl _) _⟩
  · have h0' : ((n : Int) == 0) = false := by simp; omega
    have hlen := fun w => len_any (n : Int) w (by omega) (by omega)
    simp only [Int.toNat_natCast] at hlen
    obtain ⟨b1, b2, b3⟩ := bitLen_bounds (y := n) (by omega) (by omega)
    have b4 : Lib.bitLen n ≤ 64 := Lib.bitLen_le n 64 (by omega) (by omega)
    obtain ⟨l, hl⟩ : ∃ l, Lib.bitLen n = l := ⟨_, rfl⟩
    simp only [hl] at hlen b1 b2 b3 b4
    have HX : Hid (RowAt w .u64 ao la ca (mag a)) := hx
    clear hx hl
    have HP : Hid (2 ^ (l - 1) ≤ n ∧ n < 2 ^ l ∧ 1 ≤ l) := ⟨b2, b3, by omega⟩
    clear b2 b3
    go_enter Try.func37, Try.ntmps37
    go_wp2_with (first
      | (go_at_call 58; refine (clone_any ao la ca (mag a) w HX.out (by omega)).mono ?_; rintro e w2 ⟨ao2, l2, c2, rfl, ho2, hb2⟩)
      | (go_at_call 59; refine (hlen w2).mono ?_; rintro e w3 ⟨rfl, hw3⟩; replace hw3 := hw3.symm; subst hw3))
    go_loopw [5, 6] (fun z i wr => ∃ b : Nat, i = .int .i64 ((b : Int) - 1) ∧ b < 64 ∧ 1 ≤ n / 2 ^ b ∧ PowAt w wr z a n b) (fun _ i _ => (intOf i + 1).toNat)
    case atStart =>
      exact ⟨l - 1, by go_num, by omega, (Nat.le_div_iff_mul_le (Nat.pow_pos (by decide))).2 (by have := HP.out.1; omega), ao2, l2, c2, rfl, by rw [show n / 2 ^ (l - 1) = 1 from pow_top HP.out.1 HP.out.2.1 HP.out.2.2, Nat.pow_one]; exact ho2, hb2⟩
    case round =>
      obtain ⟨b, rfl, hb64, hk, ao1, l1, c1, rfl, ho1, hbe1⟩ := hrel
      have HO : Hid (Own w.heap.size wr .u64 44 ao1 l1 c1 (mag (a ^ (n / 2 ^ b))) ∧ Below w.heap.size w wr) := ⟨ho1, hbe1⟩
      clear ho1 hbe1
      rcases b with _ | b
      · go_wp2
        go_ret
        refine ⟨ao1, l1, c1, rfl, ?_, HO.out.2⟩
        have := HO.out.1
        rw [Nat.pow_zero, Nat.div_one] at this; exact this
      · have hcast : (n : Int) / 2 ^ b = ((n / 2 ^ b : Nat) : Int) := by rw [Int.natCast_ediv, Int.natCast_pow]; rfl
        have hand : bits BinOp.and IntKind.i64 ((n : Int) / 2 ^ b) 1 = ((n / 2 ^ b % 2 : Nat) : Int) := by
          rw [hcast]; exact Go.Proofs.and_one _ (Nat.lt_of_le_of_lt (Nat.div_le_self _ _) (by omega))
        have hk' : Hid (1 ≤ n / 2 ^ b) := by
          show _ ≤ _
          rw [Nat.pow_succ, ← Nat.div_div_eq_div_mul] at hk; omega
        have hph := pow_half a n b
        have hl1 : l1 < 4000 := by
          have h1 : n / 2 ^ (b + 1) ≤ n / 2 := by
            rw [Nat.pow_succ, Nat.mul_comm, ← Nat.div_div_eq_div_mul]; exact Nat.div_le_self _ _
          rw [HO.out.1.row.hlen]; exact Nat.lt_of_le_of_lt (pow_len hk h1) h40
        have HL : Hid ((mag (a ^ (n / 2 ^ (b + 1)) * a ^ (n / 2 ^ (b + 1)))).length < 8000) := by
          show _ < _
          have h1 := mag_len_mul (a ^ (n / 2 ^ (b + 1))) (a ^ (n / 2 ^ (b + 1)))
          have h2 := HO.out.1.row.hlen
          omega
        clear hcast
        by_cases hbit : n / 2 ^ b % 2 = 1
        · rw [hbit] at hand hph
          rw [Nat.pow_one] at hph
          have HPH : Hid (a ^ (n / 2 ^ b) = a ^ (n / 2 ^ (b + 1)) * a ^ (n / 2 ^ (b + 1)) * a) := hph
          clear hph hk hbit
          go_wp2_with (first
            | (go_at_call 60; have _t := ho4; refine (times_any ao4 ao l4 c4 la ca _ _ w4 ho4.row ((HX.out.later HO.out.2).later hb4) (by omega) (by omega)).mono ?_; rintro e w5 ⟨ao5, l5, c5, rfl, ho5, hb5⟩)
            | (go_at_call 60; refine (times_any ao1 ao1 l1 c1 l1 c1 _ _ wr HO.out.1.row HO.out.1.row (by omega) (by omega)).mono ?_; rintro e w4 ⟨ao4, l4, c4, rfl, ho4, hb4⟩; have hl4 : l4 < 8000 := (by rw [ho4.row.hlen]; exact HL.out)))
          go_roundw
          case rel => exact ⟨b, rfl, by omega, hk'.out, ao5, l5, c5, rfl, by rw [HPH.out]; exact (ho5.mono (Nat.le_trans HO.out.2.size hb4.size)), (HO.out.2.trans (below_less hb4 HO.out.2.size)).trans (below_less hb5 (Nat.le_trans HO.out.2.size hb4.size))⟩
          case measure => simp [intOf]
        · have hbit0 : n / 2 ^ b % 2 = 0 := by omega
          rw [hbit0] at hand hph
          rw [Nat.pow_zero, Nat.mul_one] at hph
          have HPH : Hid (a ^ (n / 2 ^ b) = a ^ (n / 2 ^ (b + 1)) * a ^ (n / 2 ^ (b + 1))) := hph
          clear hph hk hbit hbit0
          go_wp2_with (first
            | (go_at_call 60; refine (times_any ao1 ao1 l1 c1 l1 c1 _ _ wr HO.out.1.row HO.out.1.row (by omega) (by omega)).mono ?_; rintro e w4 ⟨ao4, l4, c4, rfl, ho4, hb4⟩))
          go_roundw
          case rel => exact ⟨b, rfl, by omega, hk'.out, ao4, l4, c4, rfl, by rw [HPH.out]; exact (ho4.mono HO.out.2.size), HO.out.2.trans (below_less hb4 HO.out.2.size)⟩
          case measure => simp [intOf]
set_option maxRecDepth 100000 in
set_option maxHeartbeats 1000000 in
theorem bpow_any (neg : Bool) (ao : Option Addr) (len cap n : Nat) (v : Int) (w : World) (hx : IntAt w neg ao len cap v) (hl : len < 4000) (hn : n ≤ 64) (h40 : (mag (v.natAbs ^ (n / 2))).length < 4000) (h80 : (mag (v.natAbs ^ n)).length < 8000) :
    Calls Try.prog 13 #[.agg #[.bool neg, .slice ao len cap], .int .i64 (n : Int)] w fun e w' => NewIntErr w w' e (v ^ n) := by
  obtain ⟨W, hT⟩ := One2.mk' w neg ao len cap
  have hsz := hT.size
  have hR := hx.later hT.below
  have hM : Hid ((if mayB neg (mag v.natAbs) then 0 else 10 : Int) = 0) := hx.may
  have HE : Hid (v ^ n = sgn (neg && decide (n % 2 = 1)) (v.natAbs ^ n)) := sgn_pow hx.sg n
  have HL : Hid ((mag (v.natAbs ^ (n / 2))).length < 4000 ∧ (mag (v.natAbs ^ n)).length < 8000) := ⟨h40, h80⟩
  have hmod : (n : Int).tmod 2 = ((n % 2 : Nat) : Int) := by rw [Int.tmod_eq_emod_of_nonneg (by omega)]; omega
  have hodd : (((n % 2 : Nat) : Int) == 1) = decide (n % 2 = 1) := by
    rcases Nat.mod_two_eq_zero_or_one n with e | e <;> rw [e] <;> rfl
  obtain ⟨k, hk⟩ : ∃ k, n % 2 = k := ⟨_, rfl⟩
  rw [hk] at hmod hodd HE
  obtain ⟨c, hc⟩ : ∃ c, decide (k = 1) = c := ⟨_, rfl⟩
  rw [hc] at hodd HE
  clear hx h40 h80 hk hc
  cases neg
  · simp only [Bool.false_and] at HE
    go_enter Try.func13, Try.ntmps13
    go_wp2_with (first
      | (go_at_call 28; rw [← hT.eq]; refine (check_at false ao len cap _ _ hR.row (by omega) 0 hM.out).mono ?_; rintro e w1 ⟨rfl, hb1⟩; obtain ⟨p0, p1⟩ := hT.a.later hb1 (by omega); have hs1 := hb1.size)
      | (go_at_call 37; refine (power_any ao len cap n v.natAbs _ (hR.row.later hb1) (by omega) hl HL.out.1).mono ?_; rintro e w2 ⟨ao2, l2, c2, rfl, ho2, hb2⟩; have hlen2 : l2 < 8000 := (by rw [ho2.row.hlen]; exact HL.out.2))
      | (go_at_call 29; refine (signed_any false ao2 l2 c2 _ (by omega)).mono ?_; rintro e w3 ⟨rfl, hb3⟩; obtain ⟨g5, g3, g4⟩ := hT.r.later (bnext hb1 (bnext hb2 hb3)) (by omega)))
    exact bodyPost_ret (v := .tuple #[.agg #[.bool (false && decide (0 < l2)), .slice ao2 l2 c2], .int .i64 0]) (by simp [results, Try.results13, go_sem, g3, g4]) rfl
      (NewInt.ret ((ho2.later hb3).store (by omega) _ _) (by omega) HE.out (below_store (bnext hT.below (bnext hb1 (bnext hb2 hb3))) (by omega) _ _)).err
  · simp only [Bool.true_and] at HE
    go_enter Try.func13, Try.ntmps13
    go_wp2_with (first
      | (go_at_call 28; rw [← hT.eq]; refine (check_at true ao len cap _ _ hR.row (by omega) 0 hM.out).mono ?_; rintro e w1 ⟨rfl, hb1⟩; obtain ⟨p0, p1⟩ := hT.a.later hb1 (by omega); have hs1 := hb1.size)
      | (go_at_call 37; refine (power_any ao len cap n v.natAbs _ (hR.row.later hb1) (by omega) hl HL.out.1).mono ?_; rintro e w2 ⟨ao2, l2, c2, rfl, ho2, hb2⟩; have hlen2 : l2 < 8000 := (by rw [ho2.row.hlen]; exact HL.out.2))
      | (go_at_call 29; refine (signed_any c ao2 l2 c2 _ (by omega)).mono ?_; rintro e w3 ⟨rfl, hb3⟩; obtain ⟨g5, g3, g4⟩ := hT.r.later (bnext hb1 (bnext hb2 hb3)) (by omega)))
    exact bodyPost_ret (v := .tuple #[.agg #[.bool (c && decide (0 < l2)), .slice ao2 l2 c2], .int .i64 0]) (by simp [results, Try.results13, go_sem, g3, g4]) rfl
      (NewInt.ret ((ho2.later hb3).store (by omega) _ _) (by omega) HE.out (below_store (bnext hT.below (bnext hb1 (bnext hb2 hb3))) (by omega) _ _)).err


set_option maxRecDepth 100000 in
set_option maxHeartbeats 1000000 in
theorem left_form (neg : Bool) (ao : Option Addr) (len cap : Nat) (n : Int) (x : List Int) (w : World) (hx : RowAt w .u64 ao len cap x) (hl : len ≤ 4294967296) (hm : mayB neg x = false) :
    Calls Try.prog 10 #[.agg #[.bool neg, .slice ao len cap], .int .i64 n] w fun e w' => e = .returned (.tuple #[.agg #[.bool false, .slice none 0 0], .int .i64 10]) ∧ Below w.heap.size w w' := by
  obtain ⟨W, hT⟩ := One2.mk' w neg ao len cap
  have hsz := hT.size
  have hR := hx.later hT.below
  have HM : Hid ((if mayB neg x then 0 else 10 : Int) = 10) := by show _ = _; rw [hm]; rfl
  clear hx hm
  go_enter Try.func10, Try.ntmps10
  go_wp2_with (go_at_call 28; rw [← hT.eq]; refine (check_at neg ao len cap x _ hR (by omega) 10 HM.out).mono ?_; rintro e w1 ⟨rfl, hb1⟩; obtain ⟨g5, g3, g4⟩ := hT.r.later hb1 (by omega))
  exact bodyPost_ret (v := .tuple #[.agg #[.bool false, .slice none 0 0], .int .i64 10]) (by simp [results, Try.results10, go_sem, g3, g4]) rfl
    ⟨rfl, below_store (bnext hT.below hb1) (by omega) _ _⟩

set_option maxRecDepth 100000 in
set_option maxHeartbeats 1000000 in
theorem right_form (neg : Bool) (ao : Option Addr) (len cap : Nat) (n : Int) (x : List Int) (w : World) (hx : RowAt w .u64 ao len cap x) (hl : len ≤ 4294967296) (hm : mayB neg x = false) :
    Calls Try.prog 12 #[.agg #[.bool neg, .slice ao len cap], .int .i64 n] w fun e w' => e = .returned (.tuple #[.agg #[.bool false, .slice none 0 0], .int .i64 10]) ∧ Below w.heap.size w w' := by
  obtain ⟨W, hT⟩ := One2.mk' w neg ao len cap
  have hsz := hT.size
  have hR := hx.later hT.below
  have HM : Hid ((if mayB neg x then 0 else 10 : Int) = 10) := by show _ = _; rw [hm]; rfl
  clear hx hm
  go_enter Try.func12, Try.ntmps12
  go_wp2_with (go_at_call 28; rw [← hT.eq]; refine (check_at neg ao len cap x _ hR (by omega) 10 HM.out).mono ?_; rintro e w1 ⟨rfl, hb1⟩; obtain ⟨g5, g3, g4⟩ := hT.r.later hb1 (by omega))
  exact bodyPost_ret (v := .tuple #[.agg #[.bool false, .slice none 0 0], .int .i64 10]) (by simp [results, Try.results12, go_sem, g3, g4]) rfl
    ⟨rfl, below_store (bnext hT.below hb1) (by omega) _ _⟩

set_option maxRecDepth 100000 in
set_option maxHeartbeats 1000000 in
theorem pow_form (neg : Bool) (ao : Option Addr) (len cap : Nat) (n : Int) (x : List Int) (w : World) (hx : RowAt w .u64 ao len cap x) (hl : len ≤ 4294967296) (hm : mayB neg x = false) :
    Calls Try.prog 13 #[.agg #[.bool neg, .slice ao len cap], .int .i64 n] w fun e w' => e = .returned (.tuple #[.agg #[.bool false, .slice none 0 0], .int .i64 10]) ∧ Below w.heap.size w w' := by
  obtain ⟨W, hT⟩ := One2.mk' w neg ao len cap
  have hsz := hT.size
  have hR := hx.later hT.below
  have HM : Hid ((if mayB neg x then 0 else 10 : Int) = 10) := by show _ = _; rw [hm]; rfl
  clear hx hm
  go_enter Try.func13, Try.ntmps13
  go_wp2_with (go_at_call 28; rw [← hT.eq]; refine (check_at neg ao len cap x _ hR (by omega) 10 HM.out).mono ?_; rintro e w1 ⟨rfl, hb1⟩; obtain ⟨g5, g3, g4⟩ := hT.r.later hb1 (by omega))
  exact bodyPost_ret (v := .tuple #[.agg #[.bool false, .slice none 0 0], .int .i64 10]) (by simp [results, Try.results13, go_sem, g3, g4]) rfl
    ⟨rfl, below_store (bnext hT.below hb1) (by omega) _ _⟩

set_option maxRecDepth 100000 in
set_option maxHeartbeats 1000000 in
theorem root_form (neg : Bool) (ao : Option Addr) (len cap : Nat) (n : Int) (x : List Int) (w : World) (hx : RowAt w .u64 ao len cap x) (hl : len ≤ 4294967296) (hm : mayB neg x = false) :
    Calls Try.prog 14 #[.agg #[.bool neg, .slice ao len cap], .int .i64 n] w fun e w' => e = .returned (.tuple #[.agg #[.bool false, .slice none 0 0], .int .i64 10]) ∧ Below w.heap.size w w' := by
  obtain ⟨W, hT⟩ := One2.mk' w neg ao len cap
  have hsz := hT.size
  have hR := hx.later hT.below
  have HM : Hid ((if mayB neg x then 0 else 10 : Int) = 10) := by show _ = _; rw [hm]; rfl
  clear hx hm
  go_enter Try.func14, Try.ntmps14
  go_wp2_with (go_at_call 28; rw [← hT.eq]; refine (check_at neg ao len cap x _ hR (by omega) 10 HM.out).mono ?_; rintro e w1 ⟨rfl, hb1⟩; obtain ⟨g5, g3, g4⟩ := hT.r.later hb1 (by omega))
  exact bodyPost_ret (v := .tuple #[.agg #[.bool false, .slice none 0 0], .int .i64 10]) (by simp [results, Try.results14, go_sem, g3, g4]) rfl
    ⟨rfl, below_store (bnext hT.below hb1) (by omega) _ _⟩

set_option maxRecDepth 100000 in
set_option maxHeartbeats 1000000 in
theorem left_low (neg : Bool) (ao : Option Addr) (len cap : Nat) (n v : Int) (w : World) (hx : IntAt w neg ao len cap v) (hl : len ≤ 4294967296) (hn : n < 0) :
    Calls Try.prog 10 #[.agg #[.bool neg, .slice ao len cap], .int .i64 n] w fun e w' => e = .returned (.tuple #[.agg #[.bool false, .slice none 0 0], .int .i64 12]) ∧ Below w.heap.size w w' := by
  obtain ⟨W, hT⟩ := One2.mk' w neg ao len cap
  have hsz := hT.size
  have hR := hx.later hT.below
  have HM : Hid ((if mayB neg (mag v.natAbs) then 0 else 10 : Int) = 0) := hx.may
  clear hx
  go_enter Try.func10, Try.ntmps10
  go_wp2_with (go_at_call 28; rw [← hT.eq]; refine (check_at neg ao len cap _ _ hR.row (by omega) 0 HM.out).mono ?_; rintro e w1 ⟨rfl, hb1⟩; obtain ⟨p0, p1⟩ := hT.a.later hb1 (by omega); obtain ⟨g5, g3, g4⟩ := hT.r.later hb1 (by omega))
  exact bodyPost_ret (v := .tuple #[.agg #[.bool false, .slice none 0 0], .int .i64 12]) (by simp [results, Try.results10, go_sem, g3, g4]) rfl
    ⟨rfl, below_store (bnext hT.below hb1) (by omega) _ _⟩

set_option maxRecDepth 100000 in
set_option maxHeartbeats 1000000 in
theorem left_high (neg : Bool) (ao : Option Addr) (len cap : Nat) (n v : Int) (w : World) (hx : IntAt w neg ao len cap v) (hl : len ≤ 4294967296) (hn : 65536 < n) :
    Calls Try.prog 10 #[.agg #[.bool neg, .slice ao len cap], .int .i64 n] w fun e w' => e = .returned (.tuple #[.agg #[.bool false, .slice none 0 0], .int .i64 12]) ∧ Below w.heap.size w w' := by
  obtain ⟨W, hT⟩ := One2.mk' w neg ao len cap
  have hsz := hT.size
  have hR := hx.later hT.below
  have HM : Hid ((if mayB neg (mag v.natAbs) then 0 else 10 : Int) = 0) := hx.may
  clear hx
  go_enter Try.func10, Try.ntmps10
  go_wp2_with (go_at_call 28; rw [← hT.eq]; refine (check_at neg ao len cap _ _ hR.row (by omega) 0 HM.out).mono ?_; rintro e w1 ⟨rfl, hb1⟩; obtain ⟨p0, p1⟩ := hT.a.later hb1 (by omega); obtain ⟨g5, g3, g4⟩ := hT.r.later hb1 (by omega))
  exact bodyPost_ret (v := .tuple #[.agg #[.bool false, .slice none 0 0], .int .i64 12]) (by simp [results, Try.results10, go_sem, g3, g4]) rfl
    ⟨rfl, below_store (bnext hT.below hb1) (by omega) _ _⟩

set_option maxRecDepth 100000 in
set_option maxHeartbeats 1000000 in
theorem right_low (neg : Bool) (ao : Option Addr) (len cap : Nat) (n v : Int) (w : World) (hx : IntAt w neg ao len cap v) (hl : len ≤ 4294967296) (hn : n < 0) :
    Calls Try.prog 12 #[.agg #[.bool neg, .slice ao len cap], .int .i64 n] w fun e w' => e = .returned (.tuple #[.agg #[.bool false, .slice none 0 0], .int .i64 12]) ∧ Below w.heap.size w w' := by
  obtain ⟨W, hT⟩ := One2.mk' w neg ao len cap
  have hsz := hT.size
  have hR := hx.later hT.below
  have HM : Hid ((if mayB neg (mag v.natAbs) then 0 else 10 : Int) = 0) := hx.may
  clear hx
  go_enter Try.func12, Try.ntmps12
  go_wp2_with (go_at_call 28; rw [← hT.eq]; refine (check_at neg ao len cap _ _ hR.row (by omega) 0 HM.out).mono ?_; rintro e w1 ⟨rfl, hb1⟩; obtain ⟨p0, p1⟩ := hT.a.later hb1 (by omega); obtain ⟨g5, g3, g4⟩ := hT.r.later hb1 (by omega))
  exact bodyPost_ret (v := .tuple #[.agg #[.bool false, .slice none 0 0], .int .i64 12]) (by simp [results, Try.results12, go_sem, g3, g4]) rfl
    ⟨rfl, below_store (bnext hT.below hb1) (by omega) _ _⟩

set_option maxRecDepth 100000 in
set_option maxHeartbeats 1000000 in
theorem pow_low (neg : Bool) (ao : Option Addr) (len cap : Nat) (n v : Int) (w : World) (hx : IntAt w neg ao len cap v) (hl : len ≤ 4294967296) (hn : n < 0) :
    Calls Try.prog 13 #[.agg #[.bool neg, .slice ao len cap], .int .i64 n] w fun e w' => e = .returned (.tuple #[.agg #[.bool false, .slice none 0 0], .int .i64 12]) ∧ Below w.heap.size w w' := by
  obtain ⟨W, hT⟩ := One2.mk' w neg ao len cap
  have hsz := hT.size
  have hR := hx.later hT.below
  have HM : Hid ((if mayB neg (mag v.natAbs) then 0 else 10 : Int) = 0) := hx.may
  clear hx
  go_enter Try.func13, Try.ntmps13
  go_wp2_with (go_at_call 28; rw [← hT.eq]; refine (check_at neg ao len cap _ _ hR.row (by omega) 0 HM.out).mono ?_; rintro e w1 ⟨rfl, hb1⟩; obtain ⟨p0, p1⟩ := hT.a.later hb1 (by omega); obtain ⟨g5, g3, g4⟩ := hT.r.later hb1 (by omega))
  exact bodyPost_ret (v := .tuple #[.agg #[.bool false, .slice none 0 0], .int .i64 12]) (by simp [results, Try.results13, go_sem, g3, g4]) rfl
    ⟨rfl, below_store (bnext hT.below hb1) (by omega) _ _⟩

set_option maxRecDepth 100000 in
set_option maxHeartbeats 1000000 in
theorem pow_high (neg : Bool) (ao : Option Addr) (len cap : Nat) (n v : Int) (w : World) (hx : IntAt w neg ao len cap v) (hl : len ≤ 4294967296) (hn : 64 < n) :
    Calls Try.prog 13 #[.agg #[.bool neg, .slice ao len cap], .int .i64 n] w fun e w' => e = .returned (.tuple #[.agg #[.bool false, .slice none 0 0], .int .i64 12]) ∧ Below w.heap.size w w' := by
  obtain ⟨W, hT⟩ := One2.mk' w neg ao len cap
  have hsz := hT.size
  have hR := hx.later hT.below
  have HM : Hid ((if mayB neg (mag v.natAbs) then 0 else 10 : Int) = 0) := hx.may
  clear hx
  go_enter Try.func13, Try.ntmps13
  go_wp2_with (go_at_call 28; rw [← hT.eq]; refine (check_at neg ao len cap _ _ hR.row (by omega) 0 HM.out).mono ?_; rintro e w1 ⟨rfl, hb1⟩; obtain ⟨p0, p1⟩ := hT.a.later hb1 (by omega); obtain ⟨g5, g3, g4⟩ := hT.r.later hb1 (by omega))
  exact bodyPost_ret (v := .tuple #[.agg #[.bool false, .slice none 0 0], .int .i64 12]) (by simp [results, Try.results13, go_sem, g3, g4]) rfl
    ⟨rfl, below_store (bnext hT.below hb1) (by omega) _ _⟩

set_option maxRecDepth 100000 in
set_option maxHeartbeats 1000000 in
theorem root_low (neg : Bool) (ao : Option Addr) (len cap : Nat) (n v : Int) (w : World) (hx : IntAt w neg ao len cap v) (hl : len ≤ 4294967296) (hn : n < 1) :
    Calls Try.prog 14 #[.agg #[.bool neg, .slice ao len cap], .int .i64 n] w fun e w' => e = .returned (.tuple #[.agg #[.bool false, .slice none 0 0], .int .i64 12]) ∧ Below w.heap.size w w' := by
  obtain ⟨W, hT⟩ := One2.mk' w neg ao len cap
  have hsz := hT.size
  have hR := hx.later hT.below
  have HM : Hid ((if mayB neg (mag v.natAbs) then 0 else 10 : Int) = 0) := hx.may
  clear hx
  go_enter Try.func14, Try.ntmps14
  go_wp2_with (go_at_call 28; rw [← hT.eq]; refine (check_at neg ao len cap _ _ hR.row (by omega) 0 HM.out).mono ?_; rintro e w1 ⟨rfl, hb1⟩; obtain ⟨p0, p1⟩ := hT.a.later hb1 (by omega); obtain ⟨g5, g3, g4⟩ := hT.r.later hb1 (by omega))
  exact bodyPost_ret (v := .tuple #[.agg #[.bool false, .slice none 0 0], .int .i64 12]) (by simp [results, Try.results14, go_sem, g3, g4]) rfl
    ⟨rfl, below_store (bnext hT.below hb1) (by omega) _ _⟩

set_option maxRecDepth 100000 in
set_option maxHeartbeats 1000000 in
theorem root_high (neg : Bool) (ao : Option Addr) (len cap : Nat) (n v : Int) (w : World) (hx : IntAt w neg ao len cap v) (hl : len ≤ 4294967296) (hn : 64 < n) :
    Calls Try.prog 14 #[.agg #[.bool neg, .slice ao len cap], .int .i64 n] w fun e w' => e = .returned (.tuple #[.agg #[.bool false, .slice none 0 0], .int .i64 12]) ∧ Below w.heap.size w w' := by
  obtain ⟨W, hT⟩ := One2.mk' w neg ao len cap
  have hsz := hT.size
  have hR := hx.later hT.below
  have HM : Hid ((if mayB neg (mag v.natAbs) then 0 else 10 : Int) = 0) := hx.may
  clear hx
  go_enter Try.func14, Try.ntmps14
  go_wp2_with (go_at_call 28; rw [← hT.eq]; refine (check_at neg ao len cap _ _ hR.row (by omega) 0 HM.out).mono ?_; rintro e w1 ⟨rfl, hb1⟩; obtain ⟨p0, p1⟩ := hT.a.later hb1 (by omega); obtain ⟨g5, g3, g4⟩ := hT.r.later hb1 (by omega))
  exact bodyPost_ret (v := .tuple #[.agg #[.bool false, .slice none 0 0], .int .i64 12]) (by simp [results, Try.results14, go_sem, g3, g4]) rfl
    ⟨rfl, below_store (bnext hT.below hb1) (by omega) _ _⟩

set_option maxRecDepth 100000 in
set_option maxHeartbeats 1000000 in
theorem root_neg (ao : Option Addr) (len cap : Nat) (n v : Int) (w : World) (hx : IntAt w true ao len cap v) (hl : len ≤ 4294967296) (hn : 1 ≤ n) (hn2 : n ≤ 64) :
    Calls Try.prog 14 #[.agg #[.bool true, .slice ao len cap], .int .i64 n] w fun e w' => e = .returned (.tuple #[.agg #[.bool false, .slice none 0 0], .int .i64 12]) ∧ Below w.heap.size w w' := by
  obtain ⟨W, hT⟩ := One2.mk' w true ao len cap
  have hsz := hT.size
  have hR := hx.later hT.below
  have HM : Hid ((if mayB true (mag v.natAbs) then 0 else 10 : Int) = 0) := hx.may
  clear hx
  go_enter Try.func14, Try.ntmps14
  go_wp2_with (go_at_call 28; rw [← hT.eq]; refine (check_at true ao len cap _ _ hR.row (by omega) 0 HM.out).mono ?_; rintro e w1 ⟨rfl, hb1⟩; obtain ⟨p0, p1⟩ := hT.a.later hb1 (by omega); obtain ⟨g5, g3, g4⟩ := hT.r.later hb1 (by omega))
  exact bodyPost_ret (v := .tuple #[.agg #[.bool false, .slice none 0 0], .int .i64 12]) (by simp [results, Try.results14, go_sem, g3, g4]) rfl
    ⟨rfl, below_store (bnext hT.below hb1) (by omega) _ _⟩

set_option maxRecDepth 100000 in
set_option maxHeartbeats 1000000 in
theorem rleft_any (neg : Bool) (ao : Option Addr) (len cap n : Nat) (v : Int) (w : World) (hx : IntAt w neg ao len cap v) (hl : len ≤ 1073741824) (hn : n ≤ 65536) :
    Calls Try.prog 6 #[.agg #[.bool neg, .slice ao len cap], .int .i64 (n : Int)] w fun e w' => NewInt w w' e (v * ((2 ^ n : Nat) : Int)) := by
  obtain ⟨W, hT⟩ := One2.mk' w neg ao len cap
  have hsz := hT.size
  have hR := hx.later hT.below
  have HE : Hid (v * ((2 ^ n : Nat) : Int) = sgn neg (v.natAbs * 2 ^ n)) := sgn_scale hx.sg _
  clear hx
  have KS : Hid (∀ w' : World, Below (w.heap.size + 1) W w' → (Below (w.heap.size + 1) W w' ∧ w'.cell? ⟨w.heap.size, 0, none⟩ = some (.bool neg) ∧ w'.cell? ⟨w.heap.size, 1, none⟩ = some (.slice ao len cap))) := fun w' h => ⟨h, (h.cell (p := ⟨w.heap.size, 0, none⟩) (by show w.heap.size < _; omega)).trans hT.a.1, (h.cell (p := ⟨w.heap.size, 1, none⟩) (by show w.heap.size < _; omega)).trans hT.a.2⟩
  have K1 : Hid (∀ w1 w2 : World, (Below (w.heap.size + 1) W w1 ∧ w1.cell? ⟨w.heap.size, 0, none⟩ = some (.bool neg) ∧ w1.cell? ⟨w.heap.size, 1, none⟩ = some (.slice ao len cap)) → Below w1.heap.size w1 w2 → (Below (w.heap.size + 1) W w2 ∧ w2.cell? ⟨w.heap.size, 0, none⟩ = some (.bool neg) ∧ w2.cell? ⟨w.heap.size, 1, none⟩ = some (.slice ao len cap))) := fun w1 w2 h hb => KS.out _ (h.1.trans (hb.mono (by have := h.1.size; omega)))
  have K2 : Hid (∀ w1 w2 : World, (Below (w.heap.size + 1) W w1 ∧ w1.cell? ⟨w.heap.size, 0, none⟩ = some (.bool neg) ∧ w1.cell? ⟨w.heap.size, 1, none⟩ = some (.slice ao len cap)) → Below (w.heap.size + 1) w1 w2 → (Below (w.heap.size + 1) W w2 ∧ w2.cell? ⟨w.heap.size, 0, none⟩ = some (.bool neg) ∧ w2.cell? ⟨w.heap.size, 1, none⟩ = some (.slice ao len cap))) := fun w1 w2 h hb => KS.out _ (h.1.trans hb)
  go_enter Try.func6, Try.ntmps6
  go_wp2
  rw [← hT.eq]
  go_region_held3 (fun w' => (Below (w.heap.size + 1) W w' ∧ w'.cell? ⟨w.heap.size, 0, none⟩ = some (.bool neg) ∧ w'.cell? ⟨w.heap.size, 1, none⟩ = some (.slice ao len cap)))
    (first
      | exact KS.out _ (Below.refl _ _).drew
      | exact K1.out _ _ (by assumption) (by assumption)
      | exact K2.out _ _ (by assumption) (below_store (Below.refl _ _) (by omega) _ _))
    (first
      | (go_at_call 18; refine (up2_any ao len cap n v.natAbs _ (hR.row.later (Below.refl _ _).drew) (by omega) (by omega)).mono ?_; rintro e w2 ⟨ao2, l2, c2, rfl, ho2, hb2⟩; have hlen2 : l2 ≤ 4611686018427387904 := (by rw [ho2.row.hlen]; have q1 := mag_len_mul v.natAbs (2 ^ n); have q2 := mag_len_two n; rw [← hR.row.hlen] at q1; omega))
      | (go_at_call 17; refine (made_any neg ao2 l2 c2 _ hlen2).mono ?_; rintro e w3 ⟨rfl, hb3⟩; obtain ⟨g5, g3, g4⟩ := hT.r.later (bnext (Below.refl _ _).drew (bnext hb2 hb3)) (by omega)))
  go_wp2
  have hN := NewInt.ret (w := w) ((ho2.later hb3).store (r := w.heap.size + 1) (by show _ < W.heap.size; omega) (.bool (neg && decide (0 < l2))) (.slice ao2 l2 c2)) (by show _ ≤ W.heap.size; omega) HE.out (below_store (bnext hT.below (bnext (Below.refl _ _).drew (bnext hb2 hb3))) (by omega) _ _)
  exact bodyPost_ret (v := .agg #[.bool (neg && decide (0 < l2)), .slice ao2 l2 c2]) (by simp [results, Try.results6, go_sem, g3, g4]) rfl hN

/-- a variable that holds a number -/
def XVar (Z : World) (r : Nat) (v : Int) : Prop := ∃ n o l c, Boxed Z r n o l c ∧ IntAt Z n o l c v ∧ ∀ j, Z.frozen? ⟨r, j, none⟩ = false
theorem XVar.later {Z Z' : World} {r : Nat} {v : Int} (h : XVar Z r v) (hb : Below Z.heap.size Z Z') : XVar Z' r v := by
  obtain ⟨n, o, l, c, h1, h2, h4⟩ := h
  have hr : r < Z.heap.size := cell_lt h1.1
  exact ⟨n, o, l, c, h1.later hb hr, h2.later hb, fun j => (hb.frozen (p := ⟨r, j, none⟩) hr).trans (h4 j)⟩
/-- a handed-in number, an answer to come, a variable g with x -/
structure RPow (w Z : World) (g : Nat) (neg : Bool) (ao : Option Addr) (len cap : Nat) (v x : Int) : Prop where
  ba : Boxed Z w.heap.size neg ao len cap
  ia : IntAt Z neg ao len cap v
  fr : Fresh Z (w.heap.size + 1)
  vx : XVar Z g x
  gw : w.heap.size + 2 ≤ g
  gz : g < Z.heap.size
  bw : Below w.heap.size w Z
theorem RPow.later {w Z Z' : World} {g : Nat} {neg : Bool} {ao : Option Addr} {len cap : Nat} {v x : Int} (h : RPow w Z g neg ao len cap v x) (hb : Below Z.heap.size Z Z') : RPow w Z' g neg ao len cap v x := by
  have h1 := h.gw
  have h2 := h.gz
  exact ⟨h.ba.later hb (by omega), h.ia.later hb, h.fr.later hb (by omega), h.vx.later hb, h1, Nat.lt_of_lt_of_le h2 hb.size, bnext h.bw hb⟩
theorem RPow.put {w Z Z' : World} {g : Nat} {neg n : Bool} {ao o : Option Addr} {len cap l c : Nat} {v x y : Int} (h : RPow w Z g neg ao len cap v x) (hb : Below Z.heap.size Z Z') (hi : IntAt Z' n o l c y) : RPow w ((Z'.setCell ⟨g, 0, none⟩ (.bool n)).setCell ⟨g, 1, none⟩ (.slice o l c)) g neg ao len cap v y := by
  have k := h.later hb
  have h1 := k.gw
  have h2 := k.gz
  obtain ⟨n', o', l', c', hx, _, hf⟩ := k.vx
  exact ⟨boxed_far k.ba (by omega) _ _, ⟨k.ia.sg, k.ia.row.boxed hx _ _⟩, fresh_far k.fr (by omega) _ _, ⟨_, _, _, _, boxed_new hx, ⟨hi.sg, hi.row.boxed hx _ _⟩, fun j => by rw [frozen_far, frozen_far]; exact hf j⟩, h1, by simpa [World.setCell] using h2, below_store k.bw (by omega) _ _⟩
theorem RPow.first {w W w1 : World} {neg n : Bool} {ao o : Option Addr} {len cap l c : Nat} {v x : Int} (hT : One2 w W neg ao len cap) (hx : IntAt W neg ao len cap v) (hb : Below W.heap.size W w1) (hi : IntAt w1 n o l c x) : RPow w (w1.alloc (.cells #[.bool n, .slice o l c] 26)) w1.heap.size neg ao len cap v x := by
  have hA : Below w1.heap.size w1 (w1.alloc (.cells #[.bool n, .slice o l c] 26)) := (Below.refl _ _).alloc (Nat.le_refl _) _
  have hs := hT.size
  have hz := hb.size
  have hWA := bnext hb hA
  exact ⟨hT.a.later hWA (by omega), hx.later hWA, hT.r.later hWA (by omega), ⟨n, o, l, c, ⟨by simp [go_sem], by simp [go_sem]⟩, hi.later hA, fun j => by simp [go_sem]⟩, by omega, by simp, bnext hT.below hWA⟩
theorem RPow.last {w Z : World} {g : Nat} {neg n : Bool} {ao o : Option Addr} {len cap l c : Nat} {v x : Int} (h : RPow w Z g neg ao len cap v x) (hb : Boxed Z g n o l c) (hi : IntAt Z n o l c x) (u1 u2 : Value) : RefInt w ((Z.setCell ⟨w.heap.size + 1, 0, none⟩ u1).setCell ⟨w.heap.size + 1, 1, none⟩ u2) (.returned (.agg #[.bool n, .slice o l c])) x :=
  ⟨_, _, _, _, rfl, ⟨hi.sg, hi.row.kept h.fr _ _⟩, below_store h.bw (by omega) _ _⟩
theorem len_pow (v : Int) (k : Nat) : (mag (v ^ k).natAbs).length ≤ (mag v.natAbs).length * k + 1 := by
  rw [Int.natAbs_pow]; exact mag_len_pow _ _

set_option maxRecDepth 100000 in
set_option maxHeartbeats 1000000 in
theorem rpow_any (neg : Bool) (ao : Option Addr) (len cap n : Nat) (v : Int) (w : World) (hx : IntAt w neg ao len cap v) (hl : len ≤ 1000) (hn : n ≤ 64) :
    Calls Try.prog 8 #[.agg #[.bool neg, .slice ao len cap], .int .i64 (n : Int)] w fun e w' => RefInt w w' e (v ^ n) := by
  obtain ⟨W, hT⟩ := One2.mk' w neg ao len cap
  have hsz := hT.size
  have hR := hx.later hT.below
  have HLV : Hid ((mag v.natAbs).length ≤ 1000) := by show _ ≤ _; rw [← hx.row.hlen]; exact hl
  clear hx
  go_enter Try.func8, Try.ntmps8
  go_wp2_with (go_at_call 23; rw [← hT.eq]; refine (rfrom_any 1 _ (by decide) (by decide)).mono ?_; rintro e w1 ⟨n1, o1, l1, c1, rfl, hs1, ho1, hb1⟩; have HF : Hid (RPow w (w1.alloc (.cells #[.bool n1, .slice o1 l1 c1] 26)) w1.heap.size neg ao len cap v 1) := RPow.first hT hR hb1 ⟨hs1, ho1.row⟩; clear hs1 ho1 hb1)
  obtain ⟨g, hg⟩ : ∃ g, w1.heap.size = g := ⟨_, rfl⟩
  rw [hg] at HF
  rw [hg]
  clear hg hR hT
  go_loopw [6] (fun i wr => ∃ k : Nat, k ≤ n ∧ i = .int .i64 k ∧ RPow w wr g neg ao len cap v (v ^ k)) (fun i _ => n - (intOf i).toNat)
  case atStart => exact ⟨0, Nat.zero_le _, rfl, by rw [Int.pow_zero]; exact HF.out⟩
  case round =>
    obtain ⟨k, hk, rfl, hst⟩ := hrel
    have HS : Hid (RPow w wr g neg ao len cap v (v ^ k)) := hst
    obtain ⟨a0, a1⟩ := hst.ba
    obtain ⟨n5, o5, l5, c5, ⟨x0, x1⟩, hi5, hf5⟩ := hst.vx
    have HI : Hid (IntAt wr n5 o5 l5 c5 (v ^ k) ∧ Boxed wr g n5 o5 l5 c5) := ⟨hi5, x0, x1⟩
    have hgz := hst.gz
    obtain ⟨g5, g3, g4⟩ := hst.fr
    have hl5 : l5 ≤ 100000 := by
      rw [hi5.row.hlen]
      refine Nat.le_trans (len_pow v k) ?_
      have h1 : (mag v.natAbs).length * k ≤ 1000 * 64 := Nat.mul_le_mul HLV.out (by omega)
      omega
    clear hst hi5
    by_cases hlt : k < n
    · go_wp2_with (go_at_call 24; refine (rtimes_any n5 neg o5 ao l5 c5 len cap (v ^ k) v _ HI.out.1 HS.out.ia (by omega) (by omega)).mono ?_; rintro e w2 ⟨n6, o6, l6, c6, rfl, hs6, ho6, hb6⟩; have HA : Hid (IntAt w2 n6 o6 l6 c6 (v ^ (k + 1)) ∧ Below wr.heap.size wr w2) := ⟨(by rw [Int.pow_succ]; exact ⟨hs6, ho6.row⟩), hb6⟩; clear x0 x1; obtain ⟨x0, x1⟩ := HI.out.2.later hb6 hgz; have hfz : ∀ j, w2.frozen? ⟨g, j, none⟩ = false := (fun j => (hb6.frozen (p := ⟨g, j, none⟩) hgz).trans (hf5 j)); clear hs6 ho6)
      go_roundw
      case rel => exact ⟨k + 1, by omega, by go_num, HS.out.put HA.out.2 HA.out.1⟩
      case measure => simp [intOf]; omega
    · obtain rfl : k = n := by omega
      go_wp2
      exact bodyPost_ret (v := .agg #[.bool n5, .slice o5 l5 c5]) (by simp [results, Try.results8, go_sem, g3, g4]) rfl
        (HS.out.last HI.out.2 HI.out.1 _ _)
end Go.Proofs.Ytmjbmgjegiimfaa
