/-
  EJ, EK, EL.
-/
import Derived.Test.YtmjbmgjegiimfaaEI

/- Walks: rootStep (short numbers). -/
namespace Go.Proofs.Ytmjbmgjegiimfaa
open Go.RowKit Go.Shelf
set_option linter.unusedVariables false
set_option linter.unusedSimpArgs false

/-- a row of one word, just laid -/
theorem one_row (w : World) (n : Nat) (h0 : 0 < n) (h1 : n < 18446744073709551616) : Own w.heap.size (w.alloc (.cells #[.int .u64 (n : Int)] 44)) .u64 44 (some ⟨w.heap.size, 0, none⟩) 1 1 (mag n) := by
  rw [mag_one h0 h1]
  exact Own.whole (Blk.new w .u64 44 [(n : Int)]) (Nat.le_refl _) rfl

theorem one_row' (w : World) (n : Nat) (v : Int) (hv : v = (n : Int)) (h0 : 0 < n) (h1 : n < 18446744073709551616) : Own w.heap.size (w.alloc (.cells #[.int .u64 v] 44)) .u64 44 (some ⟨w.heap.size, 0, none⟩) 1 1 (mag n) ∧ Below w.heap.size w (w.alloc (.cells #[.int .u64 v] 44)) := by
  subst hv; exact ⟨one_row w n h0 h1, (Below.refl _ _).alloc (Nat.le_refl _) _⟩

set_option maxRecDepth 100000 in
set_option maxHeartbeats 1000000 in
theorem rootStep_small (ao bo : Option Addr) (la ca lb cb m : Nat) (a r : Nat) (w : World) (hx : RowAt w .u64 ao la ca (mag a)) (hy : RowAt w .u64 bo lb cb (mag r)) (hl : la ≤ 2147483648) (hl' : lb < 40) (hr : 0 < r) (hm : 0 < m) (hm' : m < 4294967295) (h40 : (mag (r ^ m)).length < 40) :
    Calls Try.prog 63 #[.slice ao la ca, .slice bo lb cb, .int .i64 ((m + 1 : Nat) : Int)] w fun e w' => NewNat w w' e ((m * r + a / r ^ m) / (m + 1)) := by
  have HX : Hid (RowAt w .u64 ao la ca (mag a) ∧ RowAt w .u64 bo lb cb (mag r)) := ⟨hx, hy⟩
  have hrm : 0 < r ^ m := Nat.pow_pos hr
  have e1 : ((m + 1 : Nat) : Int) - 1 = (m : Int) := by omega
  clear hx hy
  go_enter Try.func63, Try.ntmps63
  go_wp2_with (first
    | (go_at_call 37; refine (power_small bo lb cb m r w HX.out.2 (by omega) hl' (pow_half_len h40)).mono ?_; rintro e w1 ⟨ao1, l1, c1, rfl, ho1, hb1⟩; have hl1 : l1 < 40 := (by rw [ho1.row.hlen]; exact h40))
    | (go_at_call 78; have hR := one_row' w4 (m + 1) ((m : Int) + 1) (by omega) (by omega) (by omega); have HB6 : Hid (Own w4.heap.size (w4.alloc (.cells #[.int .u64 ((m : Int) + 1)] 44)) .u64 44 (some ⟨w4.heap.size, 0, none⟩) 1 1 (mag (m + 1)) ∧ Below w.heap.size w (w4.alloc (.cells #[.int .u64 ((m : Int) + 1)] 44))) := ⟨hR.1, HB5.out.2.trans (below_less hR.2 HB5.out.2.size)⟩; refine (divide_any ao5 (some ⟨w4.heap.size, 0, none⟩) l5 c5 1 1 (a / r ^ m + r * m) (m + 1) _ (HB5.out.1.row.later hR.2) HB6.out.1.row (by omega) (by omega) (by omega)).mono ?_; clear hR; rintro e w6 ⟨ao6, l6, c6, ao7, l7, c7, rfl, ho6, ho7, hb6, _⟩)
    | (go_at_call 78; refine (divide_any ao ao1 la ca l1 c1 a (r ^ m) w1 (HX.out.1.later hb1) ho1.row (by omega) (by omega) hrm).mono ?_; rintro e w2 ⟨ao2, l2, c2, ao3, l3, c3, rfl, ho2, ho3, hb2, _⟩; have HB2 : Hid (Below w.heap.size w w2 ∧ Own w1.heap.size w2 .u64 44 ao2 l2 c2 (mag (a / r ^ m)) ∧ Own w2.heap.size (w2.alloc (.cells #[.int .u64 (m : Int)] 44)) .u64 44 (some ⟨w2.heap.size, 0, none⟩) 1 1 (mag m) ∧ Below w2.heap.size w2 (w2.alloc (.cells #[.int .u64 (m : Int)] 44))) := ⟨hb1.trans (below_less hb2 hb1.size), ho2, one_row w2 m hm (by omega), (Below.refl _ _).alloc (Nat.le_refl _) _⟩; have hl2 : l2 ≤ la := (by rw [ho2.row.hlen, HX.out.1.hlen]; exact mag_len_mono (Nat.div_le_self _ _)); clear ho2 ho3 hb2)
    | (go_at_call 60; refine (times_small bo (some ⟨w2.heap.size, 0, none⟩) lb cb 1 1 r m _ (HX.out.2.later ((HB2.out.1).trans (below_less HB2.out.2.2.2 HB2.out.1.size))) HB2.out.2.2.1.row (by omega) (by omega) (Or.inl hl')).mono ?_; rintro e w3 ⟨ao4, l4, c4, rfl, ho4, hb4⟩; have HB4 : Hid (Own w.heap.size w3 .u64 44 ao4 l4 c4 (mag (r * m)) ∧ Below w2.heap.size w2 w3) := ⟨ho4.mono (Nat.le_trans HB2.out.1.size HB2.out.2.2.2.size), HB2.out.2.2.2.trans (below_less hb4 HB2.out.2.2.2.size)⟩; have hl4 : l4 ≤ 41 := (by rw [ho4.row.hlen]; have q1 := mag_len_mul r m; rw [← HX.out.2.hlen] at q1; have q2 := mag_len_one (n := m) (by omega); omega); clear ho4 hb4)
    | (go_at_call 36; refine (plus_any ao2 ao4 l2 c2 l4 c4 (a / r ^ m) (r * m) w3 (HB2.out.2.1.row.later HB4.out.2) HB4.out.1.row (by omega) (by omega)).mono ?_; rintro e w4 ⟨ao5, l5, c5, rfl, ho5, hb5⟩; have HB5 : Hid (Own w3.heap.size w4 .u64 44 ao5 l5 c5 (mag (a / r ^ m + r * m)) ∧ Below w.heap.size w w4) := ⟨ho5, (HB2.out.1.trans (below_less HB4.out.2 HB2.out.1.size)).trans (below_less hb5 (Nat.le_trans HB2.out.1.size HB4.out.2.size))⟩; have hl5 : l5 ≤ 4294967296 := (by rw [ho5.row.hlen]; have q1 := mag_len_add (a / r ^ m) (r * m); rw [← HB2.out.2.1.row.hlen, ← HB4.out.1.row.hlen] at q1; omega); clear ho5 hb5))
  go_ret
  refine ⟨ao6, l6, c6, rfl, ?_, HB6.out.2.trans (below_less hb6 HB6.out.2.size)⟩
  rw [show m * r + a / r ^ m = a / r ^ m + r * m by rw [Nat.mul_comm, Nat.add_comm]]
  exact ho6.mono HB6.out.2.size
end Go.Proofs.Ytmjbmgjegiimfaa

/- Walks: rootStart, root (short numbers). -/
namespace Go.Proofs.Ytmjbmgjegiimfaa
open Go.RowKit Go.Shelf
set_option linter.unusedVariables false
set_option linter.unusedSimpArgs false

/-- how many bits a number has -/
theorem row_bits {a la : Nat} (h0 : 0 < a) (hl : la = (mag a).length) : ∃ l : Nat, rowBits la (dig (mag a) (la - 1)) = (l : Int) ∧ 1 ≤ l ∧ l ≤ 64 * la ∧ 2 ^ (l - 1) ≤ a ∧ a < 2 ^ l := by
  have hp : 0 < la := by rw [hl]; exact mag_len_pos.2 h0
  obtain ⟨k, rfl⟩ : ∃ k, la = k + 1 := ⟨la - 1, by omega⟩
  rw [Nat.add_sub_cancel]
  have hv := mag_val a
  rw [← V_all 18446744073709551616 hl, V_succ, Nat.zero_add] at hv
  have h1 := V_nonneg (q := 18446744073709551616) (by decide) (mag_wd a) 0 k
  have h2 := V_lt (q := 18446744073709551616) (by decide) (mag_wd a) 0 k
  have hz := (mag_wd a).dig (by decide) k
  have hne : mag a ≠ [] := fun e => by rw [e] at hl; simp at hl
  have htop : dig (mag a) k ≠ 0 := by
    have h1 := mag_can a
    obtain ⟨r, t, ht⟩ := snoc_of hne
    rw [ht] at h1 hl ⊢
    have : k = r.length := by simp at hl; omega
    rw [this]; simp [dig]; exact can_snoc.1 h1
  obtain ⟨z, hze⟩ : ∃ z, dig (mag a) k = z := ⟨_, rfl⟩
  obtain ⟨v, hve⟩ : ∃ v, V 18446744073709551616 (mag a) 0 k = v := ⟨_, rfl⟩
  rw [hze] at hv hz htop; rw [hve] at hv h1 h2
  rw [hze]
  obtain ⟨z, rfl⟩ := Int.eq_ofNat_of_zero_le hz.1
  obtain ⟨v, rfl⟩ := Int.eq_ofNat_of_zero_le h1
  obtain ⟨b1, b2, b3⟩ := bitLen_bounds (y := z) (by omega) (by omega)
  have b4 : Lib.bitLen z ≤ 64 := Lib.bitLen_le z 64 (by omega) (by omega)
  unfold rowBits
  rw [if_neg (by omega), Int.toNat_natCast]
  obtain ⟨B, hB⟩ : ∃ B, Lib.bitLen z = B := ⟨_, rfl⟩
  rw [hB] at b1 b2 b3 b4 ⊢
  have hq : (18446744073709551616 : Int) ^ k = ((2 ^ (64 * k) : Nat) : Int) := by rw [Int.natCast_pow, show (18446744073709551616 : Int) = 2 ^ 64 from rfl, ← Int.pow_mul]; rfl
  rw [hq] at hv h2
  have hv' : a = v + 2 ^ (64 * k) * z := by
    have : (a : Int) = ((v + 2 ^ (64 * k) * z : Nat) : Int) := by rw [← hv, Int.natCast_add, Int.natCast_mul]
    exact Int.ofNat.inj this
  have h2' : v < 2 ^ (64 * k) := by omega
  refine ⟨64 * k + B, by omega, by omega, by omega, ?_, ?_⟩
  · rw [show 64 * k + B - 1 = 64 * k + (B - 1) by omega, Nat.pow_add]
    have := Nat.mul_le_mul_left (2 ^ (64 * k)) b2
    omega
  · rw [Nat.pow_add]
    have := Nat.mul_le_mul_left (2 ^ (64 * k)) (show z + 1 ≤ 2 ^ B from b3)
    rw [Nat.mul_add, Nat.mul_one] at this
    omega

def RootOk (n a : Nat) : Prop := ∀ (ao : Option Addr) (la ca : Nat) (w : World), RowAt w .u64 ao la ca (mag a) → Calls Try.prog 38 #[.slice ao la ca, .int .i64 (n : Int)] w fun e w' => ∃ r, IsRoot a n r ∧ NewNat w w' e r

theorem half_facts {l n : Nat} (hn : 2 ≤ n) (hl : 2 ≤ l) (h : l / n / 2 ≠ 0) : 1 ≤ n * (l / n / 2) ∧ n * (l / n / 2) ≤ l - 1 ∧ l / n / 2 ≤ l := by
  have h1 : n * (l / n / 2) * 2 ≤ l := by
    rw [Nat.mul_assoc]
    exact Nat.le_trans (Nat.mul_le_mul_left n (Nat.div_mul_le_self (l / n) 2)) (Nat.mul_div_le l n)
  have h2 : 1 * 1 ≤ n * (l / n / 2) := Nat.mul_le_mul (by omega) (Nat.pos_of_ne_zero h)
  have h3 : l / n / 2 ≤ l := Nat.le_trans (Nat.div_le_self _ _) (Nat.div_le_self _ _)
  omega

theorem root_le {x n t : Nat} (h : IsRoot x n t) (hn : 0 < n) : t ≤ x := by
  refine Nat.le_trans ?_ h.1
  rcases Nat.eq_zero_or_pos t with e | e
  · omega
  · have := Nat.pow_le_pow_right e (show 1 ≤ n from hn); rw [Nat.pow_one] at this; exact this
theorem root_len {a p n t l3 la : Nat} (h : IsRoot (a / 2 ^ p) n t) (h3 : l3 = (mag t).length) (ha : la = (mag a).length) (h40 : la < 40) (hn : 0 < n) : l3 < 40 := by
  have h1 := root_le h hn
  have h2 := mag_len_mono (Nat.le_trans h1 (Nat.div_le_self a (2 ^ p)))
  omega

set_option maxRecDepth 100000 in
set_option maxHeartbeats 1000000 in
theorem rootStart_small (ao : Option Addr) (la ca n a : Nat) (w : World) (hx : RowAt w .u64 ao la ca (mag a)) (h40 : la < 40) (h0 : 0 < a) (hn : 2 ≤ n) (hn' : n < 4294967296) (IH : ∀ y, 0 < y → y < a → RootOk n y) (h2 : 2 ≤ a) :
    Calls Try.prog 62 #[.slice ao la ca, .int .i64 (n : Int)] w fun e w' => ∃ s, Start a n s ∧ NewNat w w' e s := by
  have hbl := fun w hx => bitlen_any ao la ca (mag a) w hx (mag_wd a) (by omega)
  obtain ⟨l, hl, hl1, hl64, hlo, hhi⟩ := row_bits h0 hx.hlen
  simp only [hl] at hbl
  have hl2 : 2 ≤ l := by
    rcases Nat.lt_or_ge l 2 with h | h
    · have : l = 1 := by omega
      subst this; omega
    · exact h
  have HX : Hid (RowAt w .u64 ao la ca (mag a)) := hx
  have HL : Hid (2 ^ (l - 1) ≤ a ∧ a < 2 ^ l) := ⟨hlo, hhi⟩
  have hn0 : ((n : Int) == 0) = false := by simp; omega
  have hd1 : (l : Int).tdiv (n : Int) = ((l / n : Nat) : Int) := by rw [Int.tdiv_eq_ediv_of_nonneg (by omega), Int.natCast_ediv]
  have hd2 : ((l / n : Nat) : Int).tdiv 2 = ((l / n / 2 : Nat) : Int) := by rw [Int.tdiv_eq_ediv_of_nonneg (Int.natCast_nonneg _), Int.natCast_ediv (l / n) 2]; rfl
  have hld : l / n ≤ l := Nat.div_le_self _ _
  obtain ⟨d, hd⟩ : ∃ d, l / n = d := ⟨_, rfl⟩
  obtain ⟨h, hh⟩ : ∃ h, d / 2 = h := ⟨_, rfl⟩
  have hhf := half_facts hn hl2
  rw [hd] at hd1 hd2 hld hhf; rw [hh] at hd2 hhf
  have HH : Hid (l / n = d ∧ d / 2 = h) := ⟨hd, hh⟩
  clear hx hlo hhi hl
  by_cases hh0 : h = 0
  · subst hh0
    have hd3 : ((l : Int) + (n : Int) - 1).tdiv (n : Int) = (((l + n - 1) / n : Nat) : Int) := by rw [Int.tdiv_eq_ediv_of_nonneg (by omega), Int.natCast_ediv]; congr 1; omega
    have hk1 : (l + n - 1) / n ≤ l + n - 1 := Nat.div_le_self _ _
    obtain ⟨k, hk⟩ : ∃ k, (l + n - 1) / n = k := ⟨_, rfl⟩
    rw [hk] at hd3 hk1
    have hO := one_row' w 1 1 rfl (by decide) (by decide)
    have HO : Hid (Own w.heap.size (w.alloc (.cells #[.int .u64 1] 44)) .u64 44 (some ⟨w.heap.size, 0, none⟩) 1 1 (mag 1) ∧ Below w.heap.size w (w.alloc (.cells #[.int .u64 1] 44))) := hO
    clear hO
    have HK : Hid ((l + n - 1) / n = k) := hk
    clear hd hh hk hhf
    go_enter Try.func62, Try.ntmps62
    go_wp2_with (first
      | (go_at_call 61; have _t := hq1; refine (hbl _ (HX.out.later HO.out.2)).mono ?_; rintro e w2 ⟨rfl, rfl⟩)
      | (go_at_call 61; refine (hbl w HX.out).mono ?_; rintro e w1 ⟨rfl, hq1⟩; replace hq1 := hq1.symm; subst hq1; have hq1 := hl2)
      | (go_at_call 30; refine (shiftUp_any (some ⟨w.heap.size, 0, none⟩) 1 1 k 1 _ HO.out.1.row (by omega) (by omega)).mono ?_; rintro e w3 ⟨ao3, l3, c3, rfl, ho3, hb3⟩))
    go_ret
    refine ⟨1 * 2 ^ k, ?_, ao3, l3, c3, rfl, ho3.mono HO.out.2.size, HO.out.2.trans (below_less hb3 HO.out.2.size)⟩
    rw [Nat.one_mul, ← HK.out]
    exact start_bits (by omega) HL.out.1 HL.out.2 (by omega)
  · obtain ⟨f1, f2, f3⟩ := hhf hh0
    obtain ⟨p, hp⟩ : ∃ p, n * h = p := ⟨_, rfl⟩
    have hmul : (n : Int) * (h : Int) = (p : Int) := by rw [← hp, Int.natCast_mul]
    have HK : Hid (n * h = p) := hp
    rw [hp] at f1 f2
    have hh0' : ((h : Int) == 0) = false := by simp; omega
    have hy0 : Hid (0 < a / 2 ^ p) := by
      refine Nat.div_pos ?_ (Nat.pow_pos (by decide))
      exact Nat.le_trans (Nat.pow_le_pow_right (by decide) f2) HL.out.1
    have hya : Hid (a / 2 ^ p < a) := Nat.div_lt_self h0 (Nat.one_lt_two_pow (by omega))
    clear hd hh hhf hp
    go_enter Try.func62, Try.ntmps62
    go_wp2_with (first
      | (go_at_call 61; refine (hbl w HX.out).mono ?_; rintro e w1 ⟨rfl, hq1⟩; replace hq1 := hq1.symm; subst hq1)
      | (go_at_call 34; refine (shiftDown_any ao la ca p a w HX.out (by omega) (by omega)).mono ?_; rintro e w2 ⟨ao2, l2, c2, rfl, ho2, hb2⟩)
      | (go_at_call 38; refine (IH (a / 2 ^ p) hy0.out hya.out ao2 l2 c2 w2 ho2.row).mono ?_; rintro e w3 ⟨t, ht, ao3, l3, c3, rfl, ho3, hb3⟩; have HT : Hid (IsRoot (a / 2 ^ p) n t ∧ Own w.heap.size w3 .u64 44 ao3 l3 c3 (mag t) ∧ Below w.heap.size w w3) := ⟨ht, ho3.mono hb2.size, hb2.trans (below_less hb3 hb2.size)⟩; have hl3 : l3 < 40 := root_len ht ho3.row.hlen HX.out.hlen h40 (by omega); clear ht ho3 hb3; have hO := one_row' w3 1 1 rfl (by decide) (by decide); have HO : Hid (Own w3.heap.size (w3.alloc (.cells #[.int .u64 1] 44)) .u64 44 (some ⟨w3.heap.size, 0, none⟩) 1 1 (mag 1) ∧ Below w3.heap.size w3 (w3.alloc (.cells #[.int .u64 1] 44))) := hO; clear hO)
      | (go_at_call 36; refine (plus_any ao3 (some ⟨w3.heap.size, 0, none⟩) l3 c3 1 1 t 1 _ (HT.out.2.1.row.later HO.out.2) HO.out.1.row (by omega) (by omega)).mono ?_; rintro e w4 ⟨ao4, l4, c4, rfl, ho4, hb4⟩; have hl4 : l4 ≤ 100 := (by rw [ho4.row.hlen]; have q1 := mag_len_add t 1; rw [← HT.out.2.1.row.hlen] at q1; have q2 := mag_len_one (n := 1) (by decide); omega))
      | (go_at_call 30; refine (shiftUp_any ao4 l4 c4 h (t + 1) w4 ho4.row (by omega) (by omega)).mono ?_; rintro e w5 ⟨ao5, l5, c5, rfl, ho5, hb5⟩))
    go_ret
    have hB4 : Below w.heap.size w w4 := (HT.out.2.2.trans (below_less HO.out.2 HT.out.2.2.size)).trans (below_less hb4 (Nat.le_trans HT.out.2.2.size HO.out.2.size))
    refine ⟨(t + 1) * 2 ^ h, ?_, ao5, l5, c5, rfl, ho5.mono hB4.size, hB4.trans (below_less hb5 hB4.size)⟩
    have ht := HT.out.1
    refine start_half (by rw [HK.out]; exact ht) ?_
    rcases Nat.eq_zero_or_pos t with h | h
    · subst h
      have h1 := ht.2
      have h2 := hy0.out
      rw [Nat.zero_add, Nat.one_pow] at h1
      omega
    · exact h
end Go.Proofs.Ytmjbmgjegiimfaa

/- Walks: root (short numbers). -/
namespace Go.Proofs.Ytmjbmgjegiimfaa
open Go.RowKit Go.Shelf
set_option linter.unusedVariables false
set_option linter.unusedSimpArgs false

theorem row_unique {w : World} {ao : Option Addr} {l c s t : Nat} (h : RowAt w .u64 ao l c (mag s)) (k : RowAt w .u64 ao l c (mag t)) : s = t := by
  have e : mag s = mag t := by
    refine dig_ext (by rw [← h.hlen, ← k.hlen]) fun i hi => ?_
    rw [← h.hlen] at hi
    obtain ⟨b, o, rfl, _, h1⟩ := h.get (by omega)
    obtain ⟨b', o', e', _, h2⟩ := k.get (by omega)
    cases e'
    have := (h1 i hi).symm.trans (h2 i hi)
    simpa using this
  have h1 := mag_val s
  rw [e, mag_val] at h1
  exact (Int.ofNat.inj h1).symm
/-- there is a function that tells the number that lies at a slice -/
theorem numAt_is : ∃ numAt : Value → World → Nat, Hid (∀ (w : World) (ao : Option Addr) (l c s : Nat), RowAt w .u64 ao l c (mag s) → numAt (.slice ao l c) w = s) := by
  classical
  refine ⟨fun v w => if h : ∃ s ao l c, v = .slice ao l c ∧ RowAt w .u64 ao l c (mag s) then h.choose else 0, ?_⟩
  show ∀ (w : World) (ao : Option Addr) (l c s : Nat), RowAt w .u64 ao l c (mag s) → _
  intro w ao l c s h
  have hx : ∃ s ao' l' c', Value.slice ao l c = .slice ao' l' c' ∧ RowAt w .u64 ao' l' c' (mag s) := ⟨s, ao, l, c, rfl, h⟩
  show (if h : ∃ s ao' l' c', Value.slice ao l c = .slice ao' l' c' ∧ RowAt w .u64 ao' l' c' (mag s) then h.choose else 0) = s
  rw [dif_pos hx]
  obtain ⟨ao', l', c', e, hr⟩ := hx.choose_spec
  cases e
  exact row_unique hr h
theorem rootStep_at (ao bo : Option Addr) (la ca lb cb n m : Nat) (hnm : n = m + 1) (a r : Nat) (w : World) (hx : RowAt w .u64 ao la ca (mag a)) (hy : RowAt w .u64 bo lb cb (mag r)) (hl : la ≤ 2147483648) (hl' : lb < 40) (hr : 0 < r) (hm : 0 < m) (hm' : m < 4294967295) (h40 : (mag (r ^ m)).length < 40) :
    Calls Try.prog 63 #[.slice ao la ca, .slice bo lb cb, .int .i64 (n : Int)] w fun e w' => NewNat w w' e ((m * r + a / r ^ m) / (m + 1)) := by
  subst hnm; exact rootStep_small ao bo la ca lb cb m a r w hx hy hl hl' hr hm hm' h40

/-- the loop's state -/
def RootAt (w wr : World) (v : Value) (a n s : Nat) : Prop :=
  ∃ ao l c, v = .slice ao l c ∧ Own w.heap.size wr .u64 44 ao l c (mag s) ∧ Below w.heap.size w wr ∧ 0 < s ∧ a < (s + 1) ^ n ∧ s ^ n ≤ 2 ^ n * a

set_option maxRecDepth 100000 in
set_option maxHeartbeats 1000000 in
theorem root_step (n a : Nat) (hn : 1 ≤ n) (hn' : n < 4294967295) (h40 : (mag (2 ^ n * a)).length < 40) (IH : ∀ y, 0 < y → y < a → RootOk n y) : RootOk n a := by
  intro ao la ca w hx
  have hla : la < 40 := by
    rw [hx.hlen]
    exact Nat.lt_of_le_of_lt (mag_len_mono (Nat.le_mul_of_pos_left _ (Nat.pow_pos (by decide)))) h40
  by_cases h1 : n = 1
  · subst h1
    have HX : Hid (RowAt w .u64 ao la ca (mag a)) := hx
    clear hx
    go_enter Try.func38, Try.ntmps38
    go_wp2_with (go_at_call 58; refine (clone_any ao la ca (mag a) w HX.out (by omega)).mono ?_; rintro e w2 ⟨ao2, l2, c2, rfl, ho2, hb2⟩)
    go_ret
    exact ⟨a, ⟨by rw [Nat.pow_one]; exact Nat.le_refl _, by rw [Nat.pow_one]; omega⟩, ao2, l2, c2, rfl, ho2, hb2⟩
  · have h1' : ((n : Int) == 1) = false := by simp; omega
    by_cases ha : a = 0
    · subst ha
      have : la = 0 := by rw [hx.hlen]; rfl
      subst this
      clear hx
      go_enter Try.func38, Try.ntmps38
      go_wp2
      go_ret
      exact ⟨0, ⟨by rw [Nat.zero_pow (by omega)]; exact Nat.le_refl _, by rw [Nat.zero_add, Nat.one_pow]; decide⟩, none, 0, 0, rfl, Own.none_, Below.refl _ _⟩
    · have hla0 : ((la : Int) == 0) = false := by
        have : 0 < la := by rw [hx.hlen]; exact mag_len_pos.2 (by omega)
        simp; omega
      have hbl := fun w hx => bitlen_any ao la ca (mag a) w hx (mag_wd a) (by omega)
      obtain ⟨l, hl, hl1, hl64, hlo, hhi⟩ := row_bits (by omega) hx.hlen
      simp only [hl] at hbl
      have HX : Hid (RowAt w .u64 ao la ca (mag a)) := hx
      have HL : Hid (2 ^ (l - 1) ≤ a ∧ a < 2 ^ l) := ⟨hlo, hhi⟩
      by_cases hln : l ≤ n
      · have hO := one_row' w 1 1 rfl (by decide) (by decide)
        have HO : Hid (Own w.heap.size (w.alloc (.cells #[.int .u64 1] 44)) .u64 44 (some ⟨w.heap.size, 0, none⟩) 1 1 (mag 1) ∧ Below w.heap.size w (w.alloc (.cells #[.int .u64 1] 44))) := hO
        clear hx hlo hhi hl hO
        go_enter Try.func38, Try.ntmps38
        go_wp2_with (go_at_call 61; refine (hbl w HX.out).mono ?_; rintro e w1 ⟨rfl, hq1⟩; replace hq1 := hq1.symm; subst hq1)
        go_ret
        exact ⟨1, ⟨by rw [Nat.one_pow]; omega, Nat.lt_of_lt_of_le HL.out.2 (Nat.pow_le_pow_right (by decide) hln)⟩, _, _, _, rfl, HO.out.1, HO.out.2⟩
      · have ha2 : 2 ≤ a := by
          have h1 : 2 ^ 1 ≤ 2 ^ (l - 1) := Nat.pow_le_pow_right (by decide) (by omega)
          omega
        have hst := rootStart_small ao la ca n a w hx hla (by omega) (by omega) (by omega) IH ha2
        obtain ⟨m, hm⟩ : ∃ m, Hid (n = m + 1) := ⟨n - 1, show n = n - 1 + 1 by omega⟩
        have hm1 : 0 < m := by have := hm.out; omega
        have hm2 : m < 4294967294 := by have := hm.out; omega
        have hm3 : m ≤ n := by have := hm.out; omega
        have HM : Hid ((mag (2 ^ n * a)).length < 40) := h40
        clear hx hlo hhi hl h40 IH
        go_enter Try.func38, Try.ntmps38
        go_wp2_with (first
          | (go_at_call 61; refine (hbl w HX.out).mono ?_; rintro e w1 ⟨rfl, hq1⟩; replace hq1 := hq1.symm; subst hq1)
          | (go_at_call 62; refine hst.mono ?_; rintro e w2 ⟨s, hs, ao2, l2, c2, rfl, ho2, hb2⟩))
        obtain ⟨numAt, HNUM⟩ := numAt_is
        go_loopw [5, 6] (fun v _ wr => ∃ s, RootAt w wr v a n s) (fun v _ wr => numAt v wr)
        case atStart => exact ⟨s, ao2, l2, c2, rfl, ho2, hb2, hs.1, Nat.lt_of_lt_of_le hs.2.1 (npow_le n (by omega)), hs.2.2⟩
        case round =>
          obtain ⟨s, ao3, l3, c3, rfl, ho3, hb3, hs0, hs1, hs2⟩ := hrel
          have HS : Hid (Own w.heap.size wr .u64 44 ao3 l3 c3 (mag s) ∧ Below w.heap.size w wr ∧ a < (s + 1) ^ n ∧ s ^ n ≤ 2 ^ n * a) := ⟨ho3, hb3, hs1, hs2⟩
          have hsl : ∀ k, 1 ≤ k → k ≤ n → (mag (s ^ k)).length < 40 := fun k h1 h2 => Nat.lt_of_le_of_lt (Nat.le_trans (pow_len h1 h2) (mag_len_mono hs2)) HM.out
          have hl3 : l3 < 40 := by have := hsl 1 (by omega) (by omega); rw [Nat.pow_one, ← ho3.row.hlen] at this; exact this
          have hlm : Hid ((mag (s ^ m)).length < 40) := hsl m (by omega) hm3
          obtain ⟨x, hx⟩ : ∃ x, (m * s + a / s ^ m) / (m + 1) = x := ⟨_, rfl⟩
          have hstep := fun w hx hy => rootStep_at ao ao3 la ca l3 c3 n m hm.out a s w hx hy (by omega) hl3 hs0 (by omega) (by omega) hlm.out
          simp only [hx] at hstep
          have ha1 := step_above (x := a) (r := s) (m := m) hs0
          rw [hx, ← hm.out] at ha1
          have ha3 : x ≥ s → s ^ n ≤ a := fun h => by rw [hm.out]; exact step_stop hs0 (by rw [hx]; exact h)
          have HA : Hid (a < (x + 1) ^ n ∧ (x ≥ s → s ^ n ≤ a)) := ⟨ha1, ha3⟩
          have hx0 : 0 < x := by
            rcases Nat.eq_zero_or_pos x with h | h
            · subst h; rw [Nat.zero_add, Nat.one_pow] at ha1; omega
            · exact h
          have xl : (mag x).length ≤ 2147483648 := by
            have h1 : x ≤ m * s + a := by
              rw [← hx]
              exact Nat.le_trans (Nat.div_le_self _ _) (Nat.add_le_add_left (Nat.div_le_self _ _) _)
            have h2 := mag_len_mono h1
            have h3 := mag_len_add (m * s) a
            have h4 := mag_len_mul m s
            have h5 := mag_len_one (n := m) (by omega)
            rw [← HX.out.hlen] at h3
            rw [← ho3.row.hlen] at h4
            omega
          clear ho3 hb3 hs1 hs2 hsl hx ha1 ha3 hst ho2 hb2 hs
          by_cases hlt : x < s
          · have hxl : (mag x).length < 40 := by
              refine Nat.lt_of_le_of_lt (mag_len_mono (Nat.le_of_lt hlt)) ?_
              rw [← HS.out.1.row.hlen]; exact hl3
            go_wp2_with (first
              | (go_at_call 63; refine (hstep wr (HX.out.later HS.out.2.1) HS.out.1.row).mono ?_; rintro e w4 ⟨ao4, l4, c4, rfl, ho4, hb4⟩; have hl4 : l4 < 40 := (by rw [ho4.row.hlen]; exact hxl))
              | (go_at_call 64; refine (compare_at ao4 ao3 l4 c4 l3 c3 x s w4 ho4.row (HS.out.1.row.later hb4) (by omega) (by omega) (-1) (cmpI_lt (by omega))).mono ?_; rintro e w5 ⟨rfl, hb5⟩))
            go_roundw
            case rel =>
              have hB4 := HS.out.2.1.trans (below_less hb4 HS.out.2.1.size)
              exact ⟨x, ao4, l4, c4, rfl, (ho4.mono HS.out.2.1.size).later hb5, hB4.trans (below_less hb5 hB4.size), hx0, HA.out.1, Nat.le_trans (npow_le n (Nat.le_of_lt hlt)) HS.out.2.2.2⟩
            case measure => rw [HNUM.out _ _ _ _ _ (ho4.row.later hb5), HNUM.out _ _ _ _ _ HS.out.1.row]; exact hlt
          · obtain ⟨c, hc, hc0⟩ := cmpI_ge (a := (x : Int)) (b := (s : Int)) (by omega)
            have HXL : Hid ((mag x).length ≤ 2147483648) := xl
            clear xl
            go_wp2_with (first
              | (go_at_call 63; refine (hstep wr (HX.out.later HS.out.2.1) HS.out.1.row).mono ?_; rintro e w4 ⟨ao4, l4, c4, rfl, ho4, hb4⟩; have hl4 : l4 ≤ 2147483648 := (by rw [ho4.row.hlen]; exact HXL.out))
              | (go_at_call 64; refine (compare_at ao4 ao3 l4 c4 l3 c3 x s w4 ho4.row (HS.out.1.row.later hb4) (by omega) (by omega) c hc).mono ?_; rintro e w5 ⟨rfl, hb5⟩))
            go_ret
            have hB4 := HS.out.2.1.trans (below_less hb4 HS.out.2.1.size)
            exact ⟨s, ⟨HA.out.2 (by omega), HS.out.2.2.1⟩, ao3, l3, c3, rfl, (HS.out.1.later hb4).later hb5, hB4.trans (below_less hb5 hB4.size)⟩

/-- root tells the root -/
theorem root_small (n : Nat) (hn : 1 ≤ n) (hn' : n < 4294967295) : ∀ a, (mag (2 ^ n * a)).length < 40 → RootOk n a := by
  intro a
  induction a using Nat.strongRecOn with
  | _ a ih =>
    intro h40
    exact root_step n a hn hn' h40 fun y _ hy => ih y hy (Nat.lt_of_le_of_lt (mag_len_mono (Nat.mul_le_mul_left _ (Nat.le_of_lt hy))) h40)
end Go.Proofs.Ytmjbmgjegiimfaa
