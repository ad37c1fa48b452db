/-
  EM, EN, EO.
-/
import Derived.Test.YtiiefpnkpfliiaaGreatDoorEL

/- Walks: Mul (one factor short), Pow, Root; the laws' add, mul, Within. -/
namespace Go.Proofs.YtiiefpnkpfliiaaGreatDoor
open Go.RowKit Go.Shelf
set_option linter.unusedVariables false
set_option linter.unusedSimpArgs false

theorem sgn_mul {na nb : Bool} {a b : Int} (ha : na = sgB a) (hb : nb = sgB b) : a * b = sgn (na != nb) (a.natAbs * b.natAbs) := by
  have h1 := sgn_of ha
  have h2 := sgn_of hb
  unfold sgn at h1 h2 ⊢
  rw [Int.natCast_mul]
  cases na <;> cases nb <;> simp at h1 h2 ⊢
  · rw [h1, h2]
  · rw [h1, ← Int.mul_neg, h2]
  · rw [h2, ← Int.neg_mul, h1]
  · rw [← Int.neg_mul_neg a b, show -a = (a.natAbs : Int) by omega, show -b = (b.natAbs : Int) by omega]

set_option maxRecDepth 100000 in
set_option maxHeartbeats 1000000 in
theorem bmul_small (na nb : Bool) (ao bo : Option Addr) (la ca lb cb : Nat) (a b : Int) (w : World) (hx : IntAt w na ao la ca a) (hy : IntAt w nb bo lb cb b) (hl : la ≤ 2147483648) (hl' : lb ≤ 2147483648) (h40 : la < 40 ∨ lb < 40) :
    Calls Tryz.prog 135 #[.agg #[.bool na, .slice ao la ca], .agg #[.bool nb, .slice bo lb cb]] w fun e w' => NewIntErr w w' e (a * b) := by
  obtain ⟨W, hT⟩ := Two3.mk' w na nb ao bo la ca lb cb
  have hsz := hT.size
  have hc : (if mayB na (mag a.natAbs) && mayB nb (mag b.natAbs) then 0 else 10 : Int) = 0 := by rw [hx.sg, hy.sg, may_int, may_int]; rfl
  have HC : Hid _ := hc
  have HV : Hid (a * b = sgn (na != nb) (a.natAbs * b.natAbs)) := sgn_mul hx.sg hy.sg
  have hRx := hx.later hT.below
  have hRy := hy.later hT.below
  clear hc hx hy
  have KS : Hid (∀ w' : World, Below (w.heap.size + 2) W w' → (Below (w.heap.size + 2) W w' ∧ w'.cell? ⟨w.heap.size, 0, none⟩ = some (.bool na) ∧ w'.cell? ⟨w.heap.size, 1, none⟩ = some (.slice ao la ca) ∧ w'.cell? ⟨w.heap.size + 1, 0, none⟩ = some (.bool nb) ∧ w'.cell? ⟨w.heap.size + 1, 1, none⟩ = some (.slice bo lb cb))) := fun w' h => ⟨h, (h.cell (p := ⟨w.heap.size, 0, none⟩) (by show w.heap.size < _; omega)).trans hT.a.1, (h.cell (p := ⟨w.heap.size, 1, none⟩) (by show w.heap.size < _; omega)).trans hT.a.2, (h.cell (p := ⟨w.heap.size + 1, 0, none⟩) (by show w.heap.size + 1 < _; omega)).trans hT.b.1, (h.cell (p := ⟨w.heap.size + 1, 1, none⟩) (by show w.heap.size + 1 < _; omega)).trans hT.b.2⟩
  have K1 : Hid (∀ w1 w2 : World, (Below (w.heap.size + 2) W w1 ∧ w1.cell? ⟨w.heap.size, 0, none⟩ = some (.bool na) ∧ w1.cell? ⟨w.heap.size, 1, none⟩ = some (.slice ao la ca) ∧ w1.cell? ⟨w.heap.size + 1, 0, none⟩ = some (.bool nb) ∧ w1.cell? ⟨w.heap.size + 1, 1, none⟩ = some (.slice bo lb cb)) → Below w1.heap.size w1 w2 → (Below (w.heap.size + 2) W w2 ∧ w2.cell? ⟨w.heap.size, 0, none⟩ = some (.bool na) ∧ w2.cell? ⟨w.heap.size, 1, none⟩ = some (.slice ao la ca) ∧ w2.cell? ⟨w.heap.size + 1, 0, none⟩ = some (.bool nb) ∧ w2.cell? ⟨w.heap.size + 1, 1, none⟩ = some (.slice bo lb cb))) := fun w1 w2 h hb => KS.out _ (h.1.trans (hb.mono (by have := h.1.size; omega)))
  have K2 : Hid (∀ w1 w2 : World, (Below (w.heap.size + 2) W w1 ∧ w1.cell? ⟨w.heap.size, 0, none⟩ = some (.bool na) ∧ w1.cell? ⟨w.heap.size, 1, none⟩ = some (.slice ao la ca) ∧ w1.cell? ⟨w.heap.size + 1, 0, none⟩ = some (.bool nb) ∧ w1.cell? ⟨w.heap.size + 1, 1, none⟩ = some (.slice bo lb cb)) → Below (w.heap.size + 2) w1 w2 → (Below (w.heap.size + 2) W w2 ∧ w2.cell? ⟨w.heap.size, 0, none⟩ = some (.bool na) ∧ w2.cell? ⟨w.heap.size, 1, none⟩ = some (.slice ao la ca) ∧ w2.cell? ⟨w.heap.size + 1, 0, none⟩ = some (.bool nb) ∧ w2.cell? ⟨w.heap.size + 1, 1, none⟩ = some (.slice bo lb cb))) := fun w1 w2 h hb => KS.out _ (h.1.trans hb)
  go_enter Tryz.func135, Tryz.ntmps135
  go_wp2_with (go_at_call 127; rw [← hT.eq]; refine (checkBoth_any na nb ao bo la ca lb cb _ _ _ hRx.row hRy.row (by omega) (by omega) 0 HC.out).mono ?_; rintro e w1 ⟨rfl, hb1⟩; have hs1 := hb1.size)
  have hbX : Below (w.heap.size + 2) W w1 := hb1.mono (by omega)
  go_region_held3 (fun w' => Below (w.heap.size + 2) W w' ∧ w'.cell? ⟨w.heap.size, 0, none⟩ = some (.bool na) ∧ w'.cell? ⟨w.heap.size, 1, none⟩ = some (.slice ao la ca) ∧ w'.cell? ⟨w.heap.size + 1, 0, none⟩ = some (.bool nb) ∧ w'.cell? ⟨w.heap.size + 1, 1, none⟩ = some (.slice bo lb cb))
    (first
      | exact KS.out _ hbX.drew
      | exact K1.out _ _ (by assumption) (by assumption)
      | exact K2.out _ _ (by assumption) (below_store (Below.refl _ _) (by omega) _ _))
    (first
      | (go_at_call 149; refine (times_small ao bo la ca lb cb _ _ _ (hRx.row.later hb1.drew) (hRy.row.later hb1.drew) (by omega) (by omega) h40).mono ?_; rintro e w2 ⟨ao2, l2, c2, rfl, ho2, hb2⟩; have hlen2 : l2 ≤ 4294967296 := (by rw [ho2.row.hlen]; have q := mag_len_mul a.natAbs b.natAbs; rw [← hRx.row.hlen, ← hRy.row.hlen] at q; omega))
      | (go_at_call 99; refine (signed_any (na != nb) ao2 l2 c2 _ (by omega)).mono ?_; rintro e w3 ⟨rfl, hb3⟩; obtain ⟨g5, g3, g4⟩ := hT.r.later (bnext hb1.drew (bnext hb2 hb3)) (by omega)))
  go_wp2
  have hN := NewInt.ret (w := w) ((ho2.later hb3).store (r := w.heap.size + 1 + 1) (by show _ < w1.heap.size; omega) (.bool ((na != nb) && decide (0 < l2))) (.slice ao2 l2 c2)) (by show _ ≤ w1.heap.size; omega) HV.out (below_store (bnext hT.below (bnext hb1.drew (bnext hb2 hb3))) (by omega) _ _)
  obtain ⟨n9, ao9, l9, c9, he9, hrest9⟩ := hN
  simp only [Ending.returned.injEq, Value.agg.injEq] at he9
  exact bodyPost_ret (v := .tuple #[.agg #[.bool ((na != nb) && decide (0 < l2)), .slice ao2 l2 c2], .int .i64 0]) (by simp [results, Tryz.results135, go_sem, g3, g4]) rfl
    ⟨n9, ao9, l9, c9, by rw [he9], hrest9⟩
end Go.Proofs.YtiiefpnkpfliiaaGreatDoor

/- Walks: Pow, Root (short numbers); the laws' mul, add, Within. -/
namespace Go.Proofs.YtiiefpnkpfliiaaGreatDoor
open Go.RowKit Go.Shelf
set_option linter.unusedVariables false
set_option linter.unusedSimpArgs false

theorem sgn_pow {neg : Bool} {v : Int} (h : neg = sgB v) (n : Nat) : v ^ n = sgn (neg && decide (n % 2 = 1)) (v.natAbs ^ n) := by
  have h1 := sgn_of h
  unfold sgn at h1 ⊢
  rw [Int.natCast_pow]
  cases neg
  · simp at h1 ⊢; rw [h1]
  · simp at h1
    have h2 : v = -(v.natAbs : Int) := h1.symm
    obtain ⟨k, hk⟩ : ∃ k, v.natAbs = k := ⟨_, rfl⟩
    rw [hk] at h2 ⊢
    subst h2
    rcases Nat.mod_two_eq_zero_or_one n with e | e
    · obtain ⟨j, rfl⟩ : ∃ j, n = 2 * j := ⟨n / 2, by omega⟩
      simp [e]
      rw [Int.pow_mul, Int.pow_mul]; congr 1; grind
    · obtain ⟨j, rfl⟩ : ∃ j, n = 2 * j + 1 := ⟨n / 2, by omega⟩
      simp [e]
      rw [Int.pow_succ, Int.pow_succ, Int.pow_mul, Int.pow_mul, show (-(k : Int)) ^ 2 = (k : Int) ^ 2 by grind]; grind

theorem NewInt.err {w w' : World} {x : Value} {v : Int} (h : NewInt w w' (.returned x) v) : NewIntErr w w' (.returned (.tuple #[x, .int .i64 0])) v := by
  obtain ⟨n9, ao9, l9, c9, he9, hrest9⟩ := h
  simp only [Ending.returned.injEq] at he9
  subst he9
  exact ⟨n9, ao9, l9, c9, rfl, hrest9⟩

set_option maxRecDepth 100000 in
set_option maxHeartbeats 1000000 in
theorem bpow_small (neg : Bool) (ao : Option Addr) (len cap n : Nat) (v : Int) (w : World) (hx : IntAt w neg ao len cap v) (hl : len < 40) (hn : n ≤ 64) (h40 : (mag (v.natAbs ^ (n / 2))).length < 40) (h80 : (mag (v.natAbs ^ n)).length < 80) :
    Calls Tryz.prog 120 #[.agg #[.bool neg, .slice ao len cap], .int .i64 (n : Int)] w fun e w' => NewIntErr w w' e (v ^ n) := by
  obtain ⟨W, hT⟩ := One2.mk' w neg ao len cap
  have hsz := hT.size
  have hR := hx.later hT.below
  have hM : Hid ((if mayB neg (mag v.natAbs) then 0 else 10 : Int) = 0) := hx.may
  have HE : Hid (v ^ n = sgn (neg && decide (n % 2 = 1)) (v.natAbs ^ n)) := sgn_pow hx.sg n
  have HL : Hid ((mag (v.natAbs ^ (n / 2))).length < 40 ∧ (mag (v.natAbs ^ n)).length < 80) := ⟨h40, h80⟩
  have hmod : (n : Int).tmod 2 = ((n % 2 : Nat) : Int) := by rw [Int.tmod_eq_emod_of_nonneg (by omega)]; omega
  have hodd : (((n % 2 : Nat) : Int) == 1) = decide (n % 2 = 1) := by
    rcases Nat.mod_two_eq_zero_or_one n with e | e <;> rw [e] <;> rfl
  obtain ⟨k, hk⟩ : ∃ k, n % 2 = k := ⟨_, rfl⟩
  rw [hk] at hmod hodd HE
  obtain ⟨c, hc⟩ : ∃ c, decide (k = 1) = c := ⟨_, rfl⟩
  rw [hc] at hodd HE
  clear hx h40 h80 hk hc
  cases neg
  · simp only [Bool.false_and] at HE
    go_enter Tryz.func120, Tryz.ntmps120
    go_wp2_with (first
      | (go_at_call 51; rw [← hT.eq]; refine (check_at false ao len cap _ _ hR.row (by omega) 0 hM.out).mono ?_; rintro e w1 ⟨rfl, hb1⟩; obtain ⟨p0, p1⟩ := hT.a.later hb1 (by omega); have hs1 := hb1.size)
      | (go_at_call 139; refine (power_small ao len cap n v.natAbs _ (hR.row.later hb1) (by omega) hl HL.out.1).mono ?_; rintro e w2 ⟨ao2, l2, c2, rfl, ho2, hb2⟩; have hlen2 : l2 < 80 := (by rw [ho2.row.hlen]; exact HL.out.2))
      | (go_at_call 99; refine (signed_any false ao2 l2 c2 _ (by omega)).mono ?_; rintro e w3 ⟨rfl, hb3⟩; obtain ⟨g5, g3, g4⟩ := hT.r.later (bnext hb1 (bnext hb2 hb3)) (by omega)))
    exact bodyPost_ret (v := .tuple #[.agg #[.bool (false && decide (0 < l2)), .slice ao2 l2 c2], .int .i64 0]) (by simp [results, Tryz.results120, go_sem, g3, g4]) rfl
      (NewInt.ret ((ho2.later hb3).store (by omega) _ _) (by omega) HE.out (below_store (bnext hT.below (bnext hb1 (bnext hb2 hb3))) (by omega) _ _)).err
  · simp only [Bool.true_and] at HE
    go_enter Tryz.func120, Tryz.ntmps120
    go_wp2_with (first
      | (go_at_call 51; rw [← hT.eq]; refine (check_at true ao len cap _ _ hR.row (by omega) 0 hM.out).mono ?_; rintro e w1 ⟨rfl, hb1⟩; obtain ⟨p0, p1⟩ := hT.a.later hb1 (by omega); have hs1 := hb1.size)
      | (go_at_call 139; refine (power_small ao len cap n v.natAbs _ (hR.row.later hb1) (by omega) hl HL.out.1).mono ?_; rintro e w2 ⟨ao2, l2, c2, rfl, ho2, hb2⟩; have hlen2 : l2 < 80 := (by rw [ho2.row.hlen]; exact HL.out.2))
      | (go_at_call 99; refine (signed_any c ao2 l2 c2 _ (by omega)).mono ?_; rintro e w3 ⟨rfl, hb3⟩; obtain ⟨g5, g3, g4⟩ := hT.r.later (bnext hb1 (bnext hb2 hb3)) (by omega)))
    exact bodyPost_ret (v := .tuple #[.agg #[.bool (c && decide (0 < l2)), .slice ao2 l2 c2], .int .i64 0]) (by simp [results, Tryz.results120, go_sem, g3, g4]) rfl
      (NewInt.ret ((ho2.later hb3).store (by omega) _ _) (by omega) HE.out (below_store (bnext hT.below (bnext hb1 (bnext hb2 hb3))) (by omega) _ _)).err

end Go.Proofs.YtiiefpnkpfliiaaGreatDoor

/- Walks: the laws' mul, add, Within. -/
namespace Go.Proofs.YtiiefpnkpfliiaaGreatDoor
open Go.RowKit Go.Shelf
set_option linter.unusedVariables false
set_option linter.unusedSimpArgs false

end Go.Proofs.YtiiefpnkpfliiaaGreatDoor
