/-
  EM, EN, EO.
-/
import Derived.Test.YtmjbmgjegiimfaaEL

/- Walks: Mul (one factor short), Pow, Root; the laws' add, mul, Within. -/
namespace Go.Proofs.Ytmjbmgjegiimfaa
open Go.RowKit Go.Shelf
set_option linter.unusedVariables false
set_option linter.unusedSimpArgs false

theorem sgn_mul {na nb : Bool} {a b : Int} (ha : na = sgB a) (hb : nb = sgB b) : a * b = sgn (na != nb) (a.natAbs * b.natAbs) := by
  have h1 := sgn_of ha
  have h2 := sgn_of hb
  unfold sgn at h1 h2 ⊢
  rw [Int.natCast_mul]
  cases na <;> cases nb <;> simp at h1 h2 ⊢
  · rw [h1, h2]
  · rw [h1, ← Int.mul_neg, h2]
  · rw [h2, ← Int.neg_mul, h1]
  · rw [← Int.neg_mul_neg a b, show -a = (a.natAbs : Int) by omega, show -b = (b.natAbs : Int) by omega]

end Go.Proofs.Ytmjbmgjegiimfaa

/- Walks: Pow, Root (short numbers); the laws' mul, add, Within. -/
namespace Go.Proofs.Ytmjbmgjegiimfaa
open Go.RowKit Go.Shelf
set_option linter.unusedVariables false
set_option linter.unusedSimpArgs false

theorem sgn_pow {neg : Bool} {v : Int} (h : neg = sgB v) (n : Nat) : v ^ n = sgn (neg && decide (n % 2 = 1)) (v.natAbs ^ n) := by
  have h1 := sgn_of h
  unfold sgn at h1 ⊢
  rw [Int.natCast_pow]
  cases neg
  · simp at h1 ⊢; rw [h1]
  · simp at h1
    have h2 : v = -(v.natAbs : Int) := h1.symm
    obtain ⟨k, hk⟩ : ∃ k, v.natAbs = k := ⟨_, rfl⟩
    rw [hk] at h2 ⊢
    subst h2
    rcases Nat.mod_two_eq_zero_or_one n with e | e
    · obtain ⟨j, rfl⟩ : ∃ j, n = 2 * j := ⟨n / 2, by omega⟩
      simp [e]
      rw [Int.pow_mul, Int.pow_mul]; congr 1; grind
    · obtain ⟨j, rfl⟩ : ∃ j, n = 2 * j + 1 := ⟨n / 2, by omega⟩
      simp [e]
      rw [Int.pow_succ, Int.pow_succ, Int.pow_mul, Int.pow_mul, show (-(k : Int)) ^ 2 = (k : Int) ^ 2 by grind]; grind

theorem NewInt.err {w w' : World} {x : Value} {v : Int} (h : NewInt w w' (.returned x) v) : NewIntErr w w' (.returned (.tuple #[x, .int .i64 0])) v := by
  obtain ⟨n9, ao9, l9, c9, he9, hrest9⟩ := h
  simp only [Ending.returned.injEq] at he9
  subst he9
  exact ⟨n9, ao9, l9, c9, rfl, hrest9⟩

set_option maxRecDepth 100000 in
set_option maxHeartbeats 1000000 in
theorem bpow_small (neg : Bool) (ao : Option Addr) (len cap n : Nat) (v : Int) (w : World) (hx : IntAt w neg ao len cap v) (hl : len < 40) (hn : n ≤ 64) (h40 : (mag (v.natAbs ^ (n / 2))).length < 40) (h80 : (mag (v.natAbs ^ n)).length < 80) :
    Calls Try.prog 13 #[.agg #[.bool neg, .slice ao len cap], .int .i64 (n : Int)] w fun e w' => NewIntErr w w' e (v ^ n) := by
  obtain ⟨W, hT⟩ := One2.mk' w neg ao len cap
  have hsz := hT.size
  have hR := hx.later hT.below
  have hM : Hid ((if mayB neg (mag v.natAbs) then 0 else 10 : Int) = 0) := hx.may
  have HE : Hid (v ^ n = sgn (neg && decide (n % 2 = 1)) (v.natAbs ^ n)) := sgn_pow hx.sg n
  have HL : Hid ((mag (v.natAbs ^ (n / 2))).length < 40 ∧ (mag (v.natAbs ^ n)).length < 80) := ⟨h40, h80⟩
  have hmod : (n : Int).tmod 2 = ((n % 2 : Nat) : Int) := by rw [Int.tmod_eq_emod_of_nonneg (by omega)]; omega
  have hodd : (((n % 2 : Nat) : Int) == 1) = decide (n % 2 = 1) := by
    rcases Nat.mod_two_eq_zero_or_one n with e | e <;> rw [e] <;> rfl
  obtain ⟨k, hk⟩ : ∃ k, n % 2 = k := ⟨_, rfl⟩
  rw [hk] at hmod hodd HE
  obtain ⟨c, hc⟩ : ∃ c, decide (k = 1) = c := ⟨_, rfl⟩
  rw [hc] at hodd HE
  clear hx h40 h80 hk hc
  cases neg
  · simp only [Bool.false_and] at HE
    go_enter Try.func13, Try.ntmps13
    go_wp2_with (first
      | (go_at_call 28; rw [← hT.eq]; refine (check_at false ao len cap _ _ hR.row (by omega) 0 hM.out).mono ?_; rintro e w1 ⟨rfl, hb1⟩; obtain ⟨p0, p1⟩ := hT.a.later hb1 (by omega); have hs1 := hb1.size)
      | (go_at_call 37; refine (power_small ao len cap n v.natAbs _ (hR.row.later hb1) (by omega) hl HL.out.1).mono ?_; rintro e w2 ⟨ao2, l2, c2, rfl, ho2, hb2⟩; have hlen2 : l2 < 80 := (by rw [ho2.row.hlen]; exact HL.out.2))
      | (go_at_call 29; refine (signed_any false ao2 l2 c2 _ (by omega)).mono ?_; rintro e w3 ⟨rfl, hb3⟩; obtain ⟨g5, g3, g4⟩ := hT.r.later (bnext hb1 (bnext hb2 hb3)) (by omega)))
    exact bodyPost_ret (v := .tuple #[.agg #[.bool (false && decide (0 < l2)), .slice ao2 l2 c2], .int .i64 0]) (by simp [results, Try.results13, go_sem, g3, g4]) rfl
      (NewInt.ret ((ho2.later hb3).store (by omega) _ _) (by omega) HE.out (below_store (bnext hT.below (bnext hb1 (bnext hb2 hb3))) (by omega) _ _)).err
  · simp only [Bool.true_and] at HE
    go_enter Try.func13, Try.ntmps13
    go_wp2_with (first
      | (go_at_call 28; rw [← hT.eq]; refine (check_at true ao len cap _ _ hR.row (by omega) 0 hM.out).mono ?_; rintro e w1 ⟨rfl, hb1⟩; obtain ⟨p0, p1⟩ := hT.a.later hb1 (by omega); have hs1 := hb1.size)
      | (go_at_call 37; refine (power_small ao len cap n v.natAbs _ (hR.row.later hb1) (by omega) hl HL.out.1).mono ?_; rintro e w2 ⟨ao2, l2, c2, rfl, ho2, hb2⟩; have hlen2 : l2 < 80 := (by rw [ho2.row.hlen]; exact HL.out.2))
      | (go_at_call 29; refine (signed_any c ao2 l2 c2 _ (by omega)).mono ?_; rintro e w3 ⟨rfl, hb3⟩; obtain ⟨g5, g3, g4⟩ := hT.r.later (bnext hb1 (bnext hb2 hb3)) (by omega)))
    exact bodyPost_ret (v := .tuple #[.agg #[.bool (c && decide (0 < l2)), .slice ao2 l2 c2], .int .i64 0]) (by simp [results, Try.results13, go_sem, g3, g4]) rfl
      (NewInt.ret ((ho2.later hb3).store (by omega) _ _) (by omega) HE.out (below_store (bnext hT.below (bnext hb1 (bnext hb2 hb3))) (by omega) _ _)).err

set_option maxRecDepth 100000 in
set_option maxHeartbeats 1000000 in
theorem broot_small (ao : Option Addr) (len cap n a : Nat) (w : World) (hx : IntAt w false ao len cap (a : Int)) (hn : 1 ≤ n) (hn' : n ≤ 64) (h40 : (mag (2 ^ n * a)).length < 40) :
    Calls Try.prog 14 #[.agg #[.bool false, .slice ao len cap], .int .i64 (n : Int)] w fun e w' => ∃ r : Nat, IsRoot a n r ∧ NewIntErr w w' e (r : Int) := by
  obtain ⟨W, hT⟩ := One2.mk' w false ao len cap
  have hsz := hT.size
  have hR := hx.later hT.below
  have hM : Hid ((if mayB false (mag (a : Int).natAbs) then 0 else 10 : Int) = 0) := hx.may
  have hla : len < 40 := by
    rw [hx.row.hlen]
    exact Nat.lt_of_le_of_lt (mag_len_mono (Nat.le_mul_of_pos_left _ (Nat.pow_pos (by decide)))) h40
  have hro := root_small n hn (by omega) a h40
  have HR : Hid (RowAt W .u64 ao len cap (mag a)) := hR.row
  have HN : Hid ((mag a).length < 40) := by show _ < _; rw [← HR.out.hlen]; exact hla
  clear hx h40
  go_enter Try.func14, Try.ntmps14
  go_wp2_with (first
    | (go_at_call 28; rw [← hT.eq]; refine (check_at false ao len cap _ _ hR.row (by omega) 0 hM.out).mono ?_; rintro e w1 ⟨rfl, hb1⟩; obtain ⟨p0, p1⟩ := hT.a.later hb1 (by omega); have hs1 := hb1.size)
    | (go_at_call 38; refine (hro ao len cap _ (HR.out.later hb1)).mono ?_; rintro e w2 ⟨r, hr, ao2, l2, c2, rfl, ho2, hb2⟩; have HI : Hid (IsRoot a n r) := hr; have hlen2 : l2 < 40 := (by rw [ho2.row.hlen]; exact Nat.lt_of_le_of_lt (mag_len_mono (root_le hr hn)) HN.out); clear hr)
    | (go_at_call 29; refine (signed_any false ao2 l2 c2 _ (by omega)).mono ?_; rintro e w3 ⟨rfl, hb3⟩; obtain ⟨g5, g3, g4⟩ := hT.r.later (bnext hb1 (bnext hb2 hb3)) (by omega)))
  exact bodyPost_ret (v := .tuple #[.agg #[.bool (false && decide (0 < l2)), .slice ao2 l2 c2], .int .i64 0]) (by simp [results, Try.results14, go_sem, g3, g4]) rfl
    ⟨r, HI.out, (NewInt.ret ((ho2.later hb3).store (by omega) _ _) (by omega) (by rfl) (below_store (bnext hT.below (bnext hb1 (bnext hb2 hb3))) (by omega) _ _)).err⟩
end Go.Proofs.Ytmjbmgjegiimfaa

/- Walks: the laws' mul, add, Within. -/
namespace Go.Proofs.Ytmjbmgjegiimfaa
open Go.RowKit Go.Shelf
set_option linter.unusedVariables false
set_option linter.unusedSimpArgs false

end Go.Proofs.Ytmjbmgjegiimfaa
