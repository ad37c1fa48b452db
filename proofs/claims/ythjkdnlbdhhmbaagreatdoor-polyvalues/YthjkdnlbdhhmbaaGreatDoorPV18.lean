/-
  A pack of walks and facts: RFa.
-/
import Derived.Test.YthjkdnlbdhhmbaaGreatDoorPV16
import Derived.Test.YthjkdnlbdhhmbaaGreatDoorPV17
import Derived.Lib.SliceRun
set_option maxRecDepth 100000
set_option maxHeartbeats 40000000
set_option linter.unusedVariables false
set_option linter.unusedSimpArgs false
namespace Go.Proofs.YthjkdnlbdhhmbaaGreatDoor
open Go.RowKit
theorem clone_row (ao : Option Addr) (len cap : Nat) (zs : List Int) (w : World) (hr : RowAt w .u64 ao len cap zs) (hp : 0 < len) (hl : len ≤ 4294967296) :
    Calls Tryz.prog 124 #[.slice ao len cap] w fun e w' => NewRow w w' e zs := by
  obtain ⟨i0, hi, hz0, hz1, hz2⟩ := info_parts info64
  obtain ⟨b, off, rfl, hlt, hc⟩ := hr.get hp
  have HL : Hid (len = zs.length) := hr.hlen
  have HC : Hid (∀ t, t < len → w.cell? ⟨b, off + t, none⟩ = some (.int .u64 (dig zs t))) := hc
  have q22 : ∀ (w : World) (a : Option Addr) (n c n' c' : Nat), (binOp .eql 26 (.slice a n c) (.slice none n' c')).run Tryz.prog w = .ok (.bool a.isNone) w := fun w a n c n' c' => Lib.run_eql_slice_nil w _ _ a n c n' c' Tryz.underlying26
  have u22 : ∀ w, Sem.run Tryz.prog (underlying 26) w = .ok (TypeDesc.slice 60) w := run_underlying Tryz.underlying26
  clear hr hc
  go_enter Tryz.func124, Tryz.ntmps124
  go_wp2_with (at_builtin; refine wpList_append_own _ rfl _ _ 26 rfl w.heap.size 60 i0 (.int .u64 0) 1 8 Tryz.underlying26 hi hz0 hz1 hz2 rfl (by decide) _ _ _ rfl (World.ownsRow_made w #[] 0 (Nat.le_refl _) (Nat.zero_le _) rfl) ⟨b, off, none⟩ len cap (zs.map (Value.int .u64)) rfl ?qc1 ?qc2 ?qc3 ?qc4 ?qc5 ?qc6 ?_)
  case qc1 => have := HL.out; simp; omega
  case qc2 =>
    intro j u hj
    have hjl : j < zs.length := by
      have := (List.getElem?_eq_some_iff.1 hj).1
      simpa using this
    rw [Addr.add_lit]
    refine Lib.cell?_alloc_some _ ?_
    rw [HC.out j (by have := HL.out; omega)]
    rw [List.getElem?_map, List.getElem?_eq_getElem hjl] at hj
    simp only [Option.map_some, Option.some.injEq] at hj
    rw [← hj]; simp [dig, hjl]
  case qc3 => intro u hu; obtain ⟨x, _, rfl⟩ := List.mem_map.1 hu; rfl
  case qc4 => unfold maxLen; omega
  case qc5 => omega
  case qc6 => simp
  intro v' w1 hown hgrow hnil
  go_wp2
  go_ret
  have hbel : Below w.heap.size w w1 := ((Below.refl _ w).alloc (Nat.le_refl _) _).grown hgrow (by simp) (by intro k hk; simp [Value.ownBlock] at hk; omega)
  have hown' : w1.ownsRow w.heap.size 60 1 v' len (zs.map (Value.int .u64)) := by simpa using hown
  obtain ⟨ao2, c2, rfl, _⟩ := row_of_owns HL.out.symm hown'
  exact ⟨_, _, _, rfl, Own.ofRow HL.out.symm hown', hbel⟩
def Twos (n N : Nat) : Prop := ∃ m, n = 2 ^ N * (2 * m + 1)
theorem Twos.one {n N M : Nat} (h : Twos n N) (k : Twos n M) : N = M := by
  obtain ⟨a, ha⟩ := h; obtain ⟨b, hb⟩ := k
  exact two_parts (ha.symm.trans hb)
theorem val_zeros (q : Int) : ∀ (k : Nat) (l : List Int), (∀ j, j < k → dig l j = 0) → k ≤ l.length → val q l = q ^ k * val q (l.drop k)
  | 0, l, _, _ => by simp
  | k + 1, [], _, h => by simp at h
  | k + 1, z :: r, h0, h => by
    have hz : z = 0 := by have := h0 0 (by omega); simpa [dig] using this
    have hr := val_zeros q k r (fun j hj => by have := h0 (j + 1) (by omega); simpa [dig] using this) (by simpa using h)
    rw [val_cons, hz, hr, List.drop_succ_cons, Int.pow_succ]
    rw [Int.zero_add, ← Int.mul_assoc, Int.mul_comm q]
theorem twos_of {n k t m : Nat} (hk : k < (mag n).length) (h0 : ∀ j, j < k → dig (mag n) j = 0) (hz : dig (mag n) k = ((2 ^ t * (2 * m + 1) : Nat) : Int)) (h64 : t < 64) : Twos n (64 * k + t) := by
  have hv : val 18446744073709551616 (mag n) = (n : Int) := mag_val n
  rw [val_zeros _ k _ h0 (by omega)] at hv
  have hd : (mag n).drop k = dig (mag n) k :: (mag n).drop (k + 1) := by
    rw [List.drop_eq_getElem_cons hk]; simp [dig, hk]
  rw [hd, val_cons, hz] at hv
  have hW : Wd 18446744073709551616 ((mag n).drop (k + 1)) := fun z hz => mag_wd n z (List.mem_of_mem_drop hz)
  have hp := val_nonneg (q := 18446744073709551616) (by decide) hW
  obtain ⟨R, hR⟩ : ∃ R : Nat, val 18446744073709551616 ((mag n).drop (k + 1)) = (R : Int) := ⟨_, (Int.toNat_of_nonneg hp).symm⟩
  rw [hR] at hv
  have e1 : (18446744073709551616 : Int) = ((2 ^ 64 : Nat) : Int) := by decide
  rw [e1] at hv
  have hn : n = (2 ^ 64) ^ k * (2 ^ t * (2 * m + 1) + 2 ^ 64 * R) := by
    have : ((n : Nat) : Int) = (((2 ^ 64) ^ k * (2 ^ t * (2 * m + 1) + 2 ^ 64 * R) : Nat) : Int) := by
      rw [← hv]
      simp only [Int.natCast_mul, Int.natCast_add, Int.natCast_pow]
    exact Int.ofNat.inj this
  refine ⟨m + 2 ^ (63 - t) * R, ?_⟩
  have e2 : 2 ^ 64 = 2 ^ t * (2 * 2 ^ (63 - t)) := by
    rw [show 2 * 2 ^ (63 - t) = 2 ^ (64 - t) by rw [show 64 - t = (63 - t) + 1 by omega, Nat.pow_succ]; omega]
    rw [← Nat.pow_add]; congr 1; omega
  rw [hn, ← Nat.pow_mul, Nat.pow_add, Nat.mul_assoc]
  congr 1
  rw [e2, Nat.mul_assoc, ← Nat.mul_add]
  congr 1
  rw [Nat.mul_add, Nat.mul_assoc]
  omega
theorem twos_top {n N l : Nat} (h : Twos n N) (h1 : 2 ^ (l - 1) ≤ n) (h2 : n < 2 ^ l) (h3 : 1 ≤ l) : N = l - 1 ↔ n = 2 ^ N := by
  obtain ⟨m, hm⟩ := h
  constructor
  · intro e
    have h4 : 2 ^ N * (2 * m + 1) < 2 ^ N * 2 := by
      rw [← hm, ← Nat.pow_succ, show N.succ = l by omega]; exact h2
    have h5 := Nat.lt_of_mul_lt_mul_left h4
    rw [hm, show m = 0 by omega]; simp
  · intro e
    rw [e] at h1 h2
    have a := (Nat.pow_le_pow_iff_right (by decide : 1 < 2)).1 h1
    have b := (Nat.pow_lt_pow_iff_right (by decide : 1 < 2)).1 h2
    omega
theorem twos_gcd {x a b : Nat} (h : Twos x a) : Nat.gcd x (2 ^ b) = 2 ^ min a b := by
  obtain ⟨m, hm⟩ := h
  have hc : Nat.Coprime (2 * m + 1) (2 ^ b) := by
    refine Nat.Coprime.pow_right b ?_
    rw [Nat.coprime_iff_gcd_eq_one, Nat.gcd_comm, Nat.gcd_rec]
    rw [show (2 * m + 1) % 2 = 1 by omega]; rfl
  rw [hm, Nat.Coprime.gcd_mul_right_cancel _ hc, gcd_twos, Nat.min_comm]
theorem odd_gcd {x b : Nat} (hb : 0 < b) : Nat.gcd x (2 ^ b) = 1 ↔ x % 2 = 1 := by
  constructor
  · intro h
    by_cases e : x % 2 = 1
    · exact e
    · have h1 : 2 ∣ x := by omega
      have h2 : 2 ∣ 2 ^ b := Nat.dvd_trans (by simp) (Nat.pow_dvd_pow 2 hb)
      have := Nat.dvd_gcd h1 h2
      rw [h] at this; omega
  · intro h
    have : Twos x 0 := ⟨x / 2, by simp; omega⟩
    rw [twos_gcd this]; simp
theorem mag_odd {n : Nat} : (dig (mag n) 0) % 2 = ((n % 2 : Nat) : Int) := by
  have hv : val 18446744073709551616 (mag n) = (n : Int) := mag_val n
  cases h : mag n with
  | nil => rw [h] at hv; simp only [val_nil] at hv; have : n = 0 := by omega
           subst this; rfl
  | cons z r => rw [h, val_cons] at hv; simp only [dig, List.getD_cons_zero]; omega
theorem one_limb {n : Nat} (h : (mag n).length = 1) : dig (mag n) 0 = (n : Int) := by
  have hv := mag_val n
  match e : mag n, h with
  | [z], _ => rw [e] at hv; simpa [val_cons, val_nil, dig] using hv
theorem one_word : mag 1 = [1] := by decide
theorem isOne_any (ao : Option Addr) (l c n : Nat) (w : World) (hr : RowAt w .u64 ao l c (mag n)) (b : Bool) (hb : decide (n = 1) = b) :
    Calls Tryz.prog 81 #[.slice ao l c] w fun e w' => e = .returned (.bool b) ∧ w' = w := by
  by_cases h1 : l = 1
  · subst h1
    obtain ⟨g, off, rfl, hlt, hc⟩ := hr.get (by decide)
    have hcell := hc 0 (by decide)
    rw [one_limb hr.hlen.symm, Nat.add_zero] at hcell
    by_cases e : n = 1
    · subst e
      obtain rfl : b = true := by rw [← hb]; rfl
      have hcell' : w.cell? ⟨g, off, none⟩ = some (.int .u64 1) := hcell
      clear hc hr hb hcell
      go_enter Tryz.func81, Tryz.ntmps81
      go_wp2
      go_ret
      exact ⟨rfl, rfl⟩
    · obtain rfl : b = false := by rw [← hb]; exact decide_eq_false e
      have hne : ((n : Int) == 1) = false := by simp; omega
      clear hc hr hb
      go_enter Tryz.func81, Tryz.ntmps81
      go_wp2
      go_ret
      exact ⟨rfl, rfl⟩
  · have e : n ≠ 1 := fun e => by subst e; have := hr.hlen; rw [one_word] at this; exact h1 this
    obtain rfl : b = false := by rw [← hb]; exact decide_eq_false e
    have hne : ((l : Int) == 1) = false := by simp; omega
    clear hr hb
    go_enter Tryz.func81, Tryz.ntmps81
    go_wp2
    go_ret
    exact ⟨rfl, rfl⟩
theorem floor_exact {v q r : Int} {d : Nat} (h : FloorOf v (d : Int) q r) (hd : 0 < d) (hv : (d : Int) ∣ v) : q = v / (d : Int) := by
  obtain ⟨h0, h1⟩ := h
  obtain ⟨k, hk⟩ := hv
  have h2 : 0 ≤ r ∧ r < (d : Int) := by omega
  have h3 : v / (d : Int) = q := by
    rw [h0, Int.mul_comm]
    rw [Int.add_comm, Int.add_mul_ediv_right _ _ (by omega), Int.ediv_eq_zero_of_lt h2.1 h2.2, Int.zero_add]
  exact h3.symm
def SameOr (w w' : World) (e : Ending) (neg : Bool) (ao : Option Addr) (l c : Nat) (v : Int) : Prop :=
  ∃ n' ao' l' c', e = .returned (.agg #[.bool n', .slice ao' l' c']) ∧ IntAt w' n' ao' l' c' v ∧ ((n' = neg ∧ ao' = ao ∧ l' = l ∧ c' = c) ∨ Own w.heap.size w' .u64 60 ao' l' c' (mag v.natAbs)) ∧ Below w.heap.size w w'
theorem over_any (neg : Bool) (ao bo : Option Addr) (l c lb cb : Nat) (v : Int) (d : Nat) (w : World) (hx : IntAt w neg ao l c v) (hy : RowAt w .u64 bo lb cb (mag d)) (hl : l ≤ 1073741824) (hl' : lb ≤ 1073741824) (h0 : 0 < d) (hd : (d : Int) ∣ v) :
    Calls Tryz.prog 106 #[.agg #[.bool neg, .slice ao l c], .slice bo lb cb] w fun e w' => SameOr w w' e neg ao l c (v / (d : Int)) := by
  obtain ⟨W, hT⟩ := One2.mk' w neg ao l c
  have hsz := hT.size
  have hRx := hx.later hT.below
  have hRy := hy.later hT.below
  have HX : Hid (IntAt w neg ao l c v) := hx
  clear hx hy
  by_cases h1 : d = 1
  · have hc : decide (d = 1) = true := decide_eq_true h1
    have HC : Hid (decide (d = 1) = true) := hc
    have HV : Hid (v / (d : Int) = v) := by show _ = _; rw [h1]; simp
    clear hc h1
    go_enter Tryz.func106, Tryz.ntmps106
    go_wp2_with (go_at_call 81; rw [← hT.eq]; refine (isOne_any bo lb cb d _ hRy true HC.out).mono ?_; rintro e w1 ⟨rfl, rfl⟩; obtain ⟨p0, p1⟩ := hT.a; obtain ⟨g5, g3, g4⟩ := hT.r)
    have hB := below_store (r := w.heap.size + 1) hT.below (by omega) (.bool neg) (.slice ao l c)
    exact bodyPost_ret (v := .agg #[.bool neg, .slice ao l c]) (by simp [results, Tryz.results106, go_sem, g3, g4]) rfl
      ⟨_, _, _, _, rfl, HV.out.symm ▸ HX.out.later hB, Or.inl ⟨rfl, rfl, rfl, rfl⟩, hB⟩
  · have hc : decide (d = 1) = false := decide_eq_false h1
    have HC : Hid (decide (d = 1) = false) := hc
    have hcon : Calls Tryz.prog 92 #[.agg #[.bool neg, .slice ao l c], .agg #[.bool false, .slice bo lb cb]] W fun e w' => ∃ r, TwoIntErr W w' e (v / (d : Int)) r :=
      (bdivide_pos neg ao bo l c lb cb v (d : Int) W hRx (row_int hRy) (by omega) (by omega) (by omega)).mono fun e w' ⟨q, r, hf, ht⟩ => by
        rw [floor_exact hf h0 hd] at ht; exact ⟨r, ht⟩
    generalize v / (d : Int) = V at hcon ⊢
    clear hc h1 hd HX hRx
    go_enter Tryz.func106, Tryz.ntmps106
    go_wp2_with (first
      | (go_at_call 81; rw [← hT.eq]; refine (isOne_any bo lb cb d _ hRy false HC.out).mono ?_; rintro e w1 ⟨rfl, hw1⟩; replace hw1 := hw1.symm; subst hw1; obtain ⟨p0, p1⟩ := hT.a)
      | (go_at_call 92; refine hcon.mono ?_; rintro e w2 ⟨r, n1, ao1, l1, c1, n2, ao2, l2, c2, rfl, hs1, ho1, hs2, ho2, hb2⟩; have HS : Hid (n1 = sgB V) := hs1; clear hs1 hs2 ho2; have hs2 := hb2.size; have hA : Below W.heap.size W ((w2.alloc (.cells #[.bool n1, .slice ao1 l1 c1] 28)).alloc (.cells #[.bool n2, .slice ao2 l2 c2] 28)) := below_alloc (below_alloc hb2 (Nat.le_refl _)) (Nat.le_refl _); obtain ⟨g5, g3, g4⟩ := hT.r.later hA (by omega)))
    have hO : Own W.heap.size ((w2.alloc (.cells #[.bool n1, .slice ao1 l1 c1] 28)).alloc (.cells #[.bool n2, .slice ao2 l2 c2] 28)) .u64 60 ao1 l1 c1 (mag V.natAbs) := own_alloc (own_alloc ho1)
    have hO2 := (hO.store (r := w.heap.size + 1) (by omega) (.bool n1) (.slice ao1 l1 c1)).mono (B' := w.heap.size) (by omega)
    exact bodyPost_ret (v := .agg #[.bool n1, .slice ao1 l1 c1]) (by simp [results, Tryz.results106, go_sem, g3, g4]) rfl
      ⟨_, _, _, _, rfl, hO2.int HS.out, Or.inr hO2, below_store (bnext hT.below hA) (by omega) _ _⟩
theorem rtimes2_any (na nb : Bool) (ao bo : Option Addr) (la ca lb cb : Nat) (a b : Int) (w : World) (hx : IntAt w na ao la ca a) (hy : IntAt w nb bo lb cb b) (hl : la ≤ 1073741824) (hl' : lb ≤ 1073741824) :
    Calls Tryz.prog 126 #[.agg #[.bool na, .slice ao la ca], .agg #[.bool nb, .slice bo lb cb]] w fun e w' => NewInt w w' e (a * b) := by
  obtain ⟨W, hT⟩ := Two3.mk' w na nb ao bo la ca lb cb
  have hsz := hT.size
  have hRx := hx.later hT.below
  have hRy := hy.later hT.below
  clear hx hy
  go_enter Tryz.func126, Tryz.ntmps126
  go_wp2_with (first
    | (go_at_call 87; rw [← hT.eq]; refine (bmul_any na nb ao bo la ca lb cb a b _ hRx hRy (by omega) (by omega)).mono ?_; rintro e w1 ⟨n1, ao1, l1, c1, rfl, hsg1, ho1, hb1⟩; have HS : Hid (n1 = sgB (a * b)) := hsg1; clear hsg1; have hs1 := hb1.size; have hbA : Below W.heap.size W (w1.alloc (.cells #[.bool n1, .slice ao1 l1 c1] 28)) := hb1.trans ((Below.refl _ _).alloc hs1 _); obtain ⟨g5, g3, g4⟩ := hT.r.later hbA (by omega)))
  exact bodyPost_ret (v := .agg #[.bool n1, .slice ao1 l1 c1]) (by simp [results, Tryz.results126, go_sem, g3, g4]) rfl
    ⟨_, _, _, _, rfl, HS.out, (((ho1.later ((Below.refl _ _).alloc (Nat.le_refl _) _)).store (by omega) _ _).mono (by omega)), below_store (bnext hT.below hbA) (by omega) _ _⟩
theorem timesNat_any (na : Bool) (ao bo : Option Addr) (la ca lb cb : Nat) (a : Int) (d : Nat) (w : World) (hx : IntAt w na ao la ca a) (hy : RowAt w .u64 bo lb cb (mag d)) (hl : la ≤ 1073741824) (hl' : lb ≤ 1073741824) :
    Calls Tryz.prog 110 #[.agg #[.bool na, .slice ao la ca], .slice bo lb cb] w fun e w' => NewInt w w' e (a * (d : Int)) := by
  obtain ⟨W, hT⟩ := One2.mk' w na ao la ca
  have hsz := hT.size
  have hRx := hx.later hT.below
  have hRy := row_int (hy.later hT.below)
  clear hx hy
  go_enter Tryz.func110, Tryz.ntmps110
  go_wp2_with (first
    | (go_at_call 126; rw [← hT.eq]; refine (rtimes2_any na false ao bo la ca lb cb a (d : Int) _ hRx hRy hl hl').mono ?_; rintro e w1 ⟨n1, ao1, l1, c1, rfl, hsg1, ho1, hb1⟩; have HS : Hid (n1 = sgB (a * (d : Int))) := hsg1; clear hsg1; have hs1 := hb1.size; obtain ⟨g5, g3, g4⟩ := hT.r.later hb1 (by omega)))
  exact bodyPost_ret (v := .agg #[.bool n1, .slice ao1 l1 c1]) (by simp [results, Tryz.results110, go_sem, g3, g4]) rfl
    ⟨_, _, _, _, rfl, HS.out, ((ho1.store (by omega) _ _).mono (by omega)), below_store (bnext hT.below hb1) (by omega) _ _⟩
theorem cloneNat_any (ao : Option Addr) (l c n : Nat) (w : World) (hr : RowAt w .u64 ao l c (mag n)) (hl : l ≤ 1073741824) :
    Calls Tryz.prog 107 #[.slice ao l c] w fun e w' => NewNat w w' e n := by
  by_cases hp : 0 < l
  · have hne : ((l : Int) == 0) = false := by simp; omega
    have hcon := clone_row ao l c (mag n) w hr hp (by omega)
    clear hr
    go_enter Tryz.func107, Tryz.ntmps107
    go_wp2_with (go_at_call 124; refine hcon.mono ?_; rintro e w1 ⟨ao1, l1, c1, rfl, ho1, hb1⟩)
    go_ret
    exact ⟨_, _, _, rfl, ho1, hb1⟩
  · obtain rfl : l = 0 := by omega
    have h0 : mag n = [] := List.eq_nil_of_length_eq_zero hr.hlen.symm
    have HN : Hid (mag n = []) := h0
    clear hr h0
    go_enter Tryz.func107, Tryz.ntmps107
    go_wp2
    go_ret
    exact ⟨_, _, _, rfl, by rw [HN.out]; exact Own.none_, Below.refl _ _⟩
theorem top_word {n l : Nat} (h0 : 0 < n) (hl : l = (mag n).length) : dig (mag n) (l - 1) ≠ 0 := by
  have hne : mag n ≠ [] := List.length_pos_iff.1 (mag_len_pos.2 h0)
  obtain ⟨r, z, e⟩ := snoc_of hne
  have hc := mag_can n
  rw [e] at hc
  have hz := can_snoc.1 hc
  rw [hl, e]; simpa [dig] using hz
theorem noughts_any (ao : Option Addr) (l c n : Nat) (w : World) (hr : RowAt w .u64 ao l c (mag n)) (h0 : 0 < n) (hl : l ≤ 1073741824) (hT : TabAt 0 Lib.deBruijn64tab w) :
    Calls Tryz.prog 99 #[.slice ao l c] w fun e w' => (∃ N : Nat, e = .returned (.int .i64 (N : Int)) ∧ Twos n N ∧ N < 64 * l) ∧ w' = w := by
  have hp : 0 < l := by rw [hr.hlen]; exact mag_len_pos.2 h0
  have HTop : Hid (dig (mag n) (l - 1) ≠ 0) := top_word h0 hr.hlen
  obtain ⟨g, off, rfl, hlt, hc⟩ := hr.get hp
  have HC : Hid (∀ t, t < l → w.cell? ⟨g, off + t, none⟩ = some (.int .u64 (dig (mag n) t))) := hc
  have HL : Hid (l = (mag n).length) := hr.hlen
  have HT : Hid (TabAt 0 Lib.deBruijn64tab w) := hT
  clear hc hr hT
  go_enter Tryz.func99, Tryz.ntmps99
  go_wp2
  go_loopw [2] (fun i wr => ∃ k : Nat, k < l ∧ i = .int .i64 k ∧ wr = w ∧ Hid (∀ j, j < k → dig (mag n) j = 0)) (fun i _ => l - (intOf i).toNat)
  case atStart => exact ⟨0, hp, rfl, rfl, fun j hj => absurd hj (by omega)⟩
  case round =>
    obtain ⟨k, hk, rfl, hw, HZ⟩ := hrel
    subst hw
    have hcell := HC.out k hk
    have z1 : (0 : Int) ≤ (k : Int) := by omega
    have z2 : (k : Int) < (l : Int) := by omega
    by_cases e : dig (mag n) k = 0
    · have hk1 : k + 1 < l := by
        by_cases e1 : k + 1 < l
        · exact e1
        · exfalso; have : k = l - 1 := by omega
          rw [this] at e; exact HTop.out e
      rw [e] at hcell
      have HE : Hid (dig (mag n) k = 0) := e
      clear e
      go_wp2
      go_roundw
      case rel =>
        refine ⟨k + 1, hk1, by go_num, by first | rfl | trivial, fun j hj => ?_⟩
        rcases Nat.lt_or_ge j k with h | h
        · exact HZ.out j h
        · rw [show j = k by omega]; exact HE.out
      case measure => simp [intOf]; omega
    · obtain ⟨x, hx⟩ : ∃ x : Nat, dig (mag n) k = (x : Int) := ⟨(dig (mag n) k).toNat, by have := ((mag_wd n).dig (by decide) k).1; omega⟩
      have hx64 : x < 18446744073709551616 := by have := ((mag_wd n).dig (by decide) k).2; omega
      have hx0 : x ≠ 0 := by omega
      have HX : Hid (dig (mag n) k = (x : Int)) := hx
      rw [hx] at hcell
      have hne : ((x : Int) == 0) = false := by simp; omega
      clear e hx
      go_wp2_with (go_at_call 116; refine (trailing_any x _ hx64 HT.out).mono ?_; rintro e w1 ⟨rfl, rfl⟩)
      go_ret
      obtain ⟨m, hm, h64⟩ := ctz_spec hx0 hx64
      refine ⟨⟨64 * k + Lib.ctz 64 x, ?_, twos_of (by rw [← HL.out]; exact hk) HZ.out (by rw [HX.out, ← hm]) h64, by omega⟩, rfl⟩
      exact ret_int (by (try unfold wrap64); (try simp only [IntKind.wrap_i64]); omega)
theorem isPow_any (ao : Option Addr) (l c n : Nat) (w : World) (hr : RowAt w .u64 ao l c (mag n)) (h0 : 0 < n) (hl : l ≤ 1073741824) (hT : TabAt 0 Lib.deBruijn64tab w) :
    Calls Tryz.prog 82 #[.slice ao l c] w fun e w' => (∃ N : Nat, e = .returned (.bool (decide (n = 2 ^ N))) ∧ Twos n N ∧ N < 64 * l) ∧ Below w.heap.size w w' := by
  have hp : (0 : Int) < (l : Int) := by have : 0 < l := by rw [hr.hlen]; exact mag_len_pos.2 h0
                                        omega
  obtain ⟨L, hL, hL1, hL2, hL3, hL4⟩ := row_bits h0 hr.hlen
  have HLen : Hid (rowBits l (dig (mag n) (l - 1)) = (L : Int)) := hL
  have HR : Hid (RowAt w .u64 ao l c (mag n) ∧ TabAt 0 Lib.deBruijn64tab w) := ⟨hr, hT⟩
  have hblen : ∀ w1 : World, RowAt w1 .u64 ao l c (mag n) → Calls Tryz.prog 100 #[.agg #[.bool false, .slice ao l c]] w1 fun e w' => e = .returned (.int .i64 (L : Int)) ∧ Below w1.heap.size w1 w' := fun w1 h1 => by
    have := blen_any false ao l c (n : Int) w1 (row_int h1) (by omega)
    rw [show ((n : Int).natAbs) = n from rfl, HLen.out] at this
    exact this
  clear hr hT hL
  go_enter Tryz.func82, Tryz.ntmps82
  go_wp2_with (first
    | (go_at_call 99; refine (noughts_any ao l c n _ HR.out.1 h0 hl HR.out.2).mono ?_; rintro e w1 ⟨⟨N, rfl, hN, hN2⟩, rfl⟩; have HN : Hid (Twos n N) := hN; clear hN)
    | (go_at_call 100; refine (hblen _ HR.out.1).mono ?_; rintro e w2 ⟨rfl, hb2⟩))
  go_ret
  refine ⟨⟨N, ?_, HN.out, hN2⟩, hb2⟩
  have hi := twos_top HN.out hL3 hL4 hL1
  by_cases e : N = L - 1
  · rw [decide_eq_true (hi.1 e)]
    simp only [IntKind.wrap_i64]
    congr 2; simp; omega
  · rw [decide_eq_false (fun h => e (hi.2 h))]
    simp only [IntKind.wrap_i64]
    congr 2; simp; omega
theorem isPow_yes (ao : Option Addr) (l c n k : Nat) (w : World) (hr : RowAt w .u64 ao l c (mag n)) (hn : n = 2 ^ k) (hl : l ≤ 1073741824) (hT : TabAt 0 Lib.deBruijn64tab w) :
    Calls Tryz.prog 82 #[.slice ao l c] w fun e w' => e = .returned (.bool true) ∧ Below w.heap.size w w' := by
  have h0 : 0 < n := by rw [hn]; exact Nat.two_pow_pos k
  refine (isPow_any ao l c n w hr h0 hl hT).mono fun e w' ⟨⟨N, he, hN, _⟩, hb⟩ => ⟨?_, hb⟩
  have : N = k := hN.one ⟨0, by rw [hn]; simp⟩
  rw [he, this, decide_eq_true hn]
theorem isPow_no (ao : Option Addr) (l c n : Nat) (w : World) (hr : RowAt w .u64 ao l c (mag n)) (h0 : 0 < n) (hn : ∀ k, n ≠ 2 ^ k) (hl : l ≤ 1073741824) (hT : TabAt 0 Lib.deBruijn64tab w) :
    Calls Tryz.prog 82 #[.slice ao l c] w fun e w' => e = .returned (.bool false) ∧ Below w.heap.size w w' := by
  refine (isPow_any ao l c n w hr h0 hl hT).mono fun e w' ⟨⟨N, he, hN, _⟩, hb⟩ => ⟨?_, hb⟩
  rw [he, decide_eq_false (hn N)]
theorem wrap64_small {q : Nat} (h : q ≤ 1073741824) : wrap64 (q : Int) = (q : Int) ∧ wrap64 ((q : Int) + 1) = (q : Int) + 1 := by
  unfold wrap64; omega
theorem lt_eq {a b c : Int} (h : a < b) (e : b = c) : a < c := e ▸ h
theorem pow_words (n : Nat) : mag (2 ^ n) = List.replicate (n / 64) 0 ++ [((2 ^ (n % 64) : Nat) : Int)] := by
  refine mag_of ?_ ?_ ?_
  · intro z hz
    rcases List.mem_append.1 hz with h | h
    · rw [(List.mem_replicate.1 h).2]; decide
    · rw [List.mem_singleton.1 h]
      have : 2 ^ (n % 64) < 2 ^ 64 := Nat.pow_lt_pow_right (by decide) (Nat.mod_lt _ (by decide))
      exact ⟨Int.natCast_nonneg _, lt_eq (Int.ofNat_lt.2 this) (by decide)⟩
  · exact can_snoc.2 (by have := Nat.two_pow_pos (n % 64); omega)
  · rw [val_append, val_cons, val_nil, List.length_replicate]
    have h0 : ∀ k : Nat, val 18446744073709551616 (List.replicate k 0) = 0 := fun k => by
      induction k with
      | zero => rfl
      | succ k ih => rw [List.replicate_succ, val_cons, ih]; rfl
    rw [h0]
    have e : 2 ^ n = (2 ^ 64) ^ (n / 64) * 2 ^ (n % 64) := by
      rw [← Nat.pow_mul, ← Nat.pow_add]; congr 1; omega
    rw [e, Int.zero_add, Int.mul_zero, Int.add_zero, Int.natCast_mul, Int.natCast_pow (2 ^ 64), show ((2 ^ 64 : Nat) : Int) = 18446744073709551616 by decide]
theorem powerOfTwo_any (n : Nat) (w : World) (hn : n ≤ 68719476736) :
    Calls Tryz.prog 101 #[.int .i64 (n : Int)] w fun e w' => NewNat w w' e (2 ^ n) := by
  obtain ⟨i0, hi, hz0, hz1, hz2⟩ := info_parts info64
  obtain ⟨q, hq⟩ : ∃ q : Nat, n / 64 = q := ⟨_, rfl⟩
  obtain ⟨t, ht⟩ : ∃ t : Nat, n % 64 = t := ⟨_, rfl⟩
  have d1 : Int.tdiv (n : Int) 64 = (q : Int) := by rw [Int.tdiv_eq_ediv_of_nonneg (by omega)]; omega
  have d2 : Int.tmod (n : Int) 64 = (t : Int) := by rw [Int.tmod_eq_emod_of_nonneg (by omega)]; omega
  have ht64 : t < 64 := by omega
  have d3 : (t : Int) < 64 := by omega
  have d4 : (0 : Int) ≤ (t : Int) := by omega
  have HD5 : Hid (IntKind.u64.wrap ((2 : Int) ^ t) = ((2 ^ t : Nat) : Int)) := by
    show _ = _
    have : 2 ^ t < 2 ^ 64 := Nat.pow_lt_pow_right (by decide) ht64
    rw [show ((2 : Int) ^ t) = ((2 ^ t : Nat) : Int) by rw [Int.natCast_pow]; rfl, wrapU]
    exact Int.emod_eq_of_lt (Int.natCast_nonneg _) (lt_eq (Int.ofNat_lt.2 this) (by decide))
  have HP : Hid (mag (2 ^ n) = (List.replicate (q + 1) 0).set q ((2 ^ t : Nat) : Int)) := by
    show _ = _
    rw [pow_words n, hq, ht, List.replicate_succ', List.set_append_right _ _ (by simp)]; simp
  have b1 : Hid (i0.bytes * (q + 1) ≤ 281474976710656) := by show _ ≤ _; rw [hz2]; omega
  have b2 : Hid (q + 1 ≤ maxLen) := by show _ ≤ _; unfold maxLen; omega
  have z1 : (0 : Int) ≤ (q : Int) := by omega
  have z2 : (q : Int) < (q : Int) + 1 := by omega
  have hq30 : q ≤ 1073741824 := by rw [← hq]; omega
  have z3 : wrap64 (q : Int) = (q : Int) := (wrap64_small hq30).1
  have z4 : wrap64 ((q : Int) + 1) = (q : Int) + 1 := (wrap64_small hq30).2
  clear hq ht
  go_enter Tryz.func101, Tryz.ntmps101
  go_wp2_with (first
    | (at_make; go_loud (refine wpList_make_full _ rfl (.tmp 6) (.tmp 6) 26 rfl w.heap.size 60 i0 (.int .u64 0) 1 Tryz.underlying26 hi hz0 hz1 .i64 .i64 _ _ (q + 1) rfl rfl (by omega) (by omega) b1.out b2.out (Nat.le_refl _) ?_); intro w1 hown1 hgrow1; have HB : Hid (Blk w1 w.heap.size .u64 60 (List.replicate (q + 1) 0) ∧ Below w.heap.size w w1) := ⟨made_blk hown1, grown_below hgrow1⟩; have k1 : w1.cell? ⟨w.heap.size, q, none⟩ = some (.int .u64 0) := (HB.out.1.cell (j := q) (by simp)).trans (by simp [dig]); have k2 := HB.out.1.frozen q; have d5 := HD5.out; clear hown1 hgrow1))
  go_ret
  refine ⟨_, _, _, rfl, ?_, HB.out.2.setCell (p := ⟨w.heap.size, q, none⟩) (Nat.le_refl _) _⟩
  rw [HP.out]
  exact Own.whole (HB.out.1.set q _) (Nat.le_refl _) (by simp)
theorem two_or (n : Nat) : (∃ k, n = 2 ^ k) ∨ ∀ k, n ≠ 2 ^ k := by
  rcases Classical.em (∃ k, n = 2 ^ k) with h | h
  · exact Or.inl h
  · exact Or.inr fun k hk => h ⟨k, hk⟩
theorem gcd_one_len {n d l : Nat} (h : l = (mag n).length) (hl : l = 0) : Nat.gcd n d = d := by
  have : n = 0 := by
    rcases Nat.eq_zero_or_pos n with e | e
    · exact e
    · have := mag_len_pos.2 e; omega
  subst this; simp
def SomeRow (w w' : World) (e : Ending) (n : Nat) : Prop := ∃ go lg cg, e = .returned (.slice go lg cg) ∧ RowAt w' .u64 go lg cg (mag n) ∧ Below w.heap.size w w'
theorem common_any (ao bo : Option Addr) (la ca lb cb a b : Nat) (w : World) (hx : RowAt w .u64 ao la ca (mag a)) (hy : RowAt w .u64 bo lb cb (mag b)) (h0 : 0 < b) (hl : la ≤ 1073741824) (hl' : lb ≤ 1073741824) (hT : TabAt 0 Lib.deBruijn64tab w) :
    Calls Tryz.prog 83 #[.slice ao la ca, .slice bo lb cb] w fun e w' => SomeRow w w' e (Nat.gcd a b) := by
  have HX : Hid (RowAt w .u64 ao la ca (mag a) ∧ RowAt w .u64 bo lb cb (mag b) ∧ TabAt 0 Lib.deBruijn64tab w) := ⟨hx, hy, hT⟩
  have HL : Hid (la = (mag a).length) := hx.hlen
  clear hx hy hT
  by_cases h1 : b = 1
  · have hc : ∀ W, RowAt W .u64 bo lb cb (mag b) → Calls Tryz.prog 81 #[.slice bo lb cb] W fun e w' => e = .returned (.bool true) ∧ w' = W := fun W h => isOne_any bo lb cb b W h true (decide_eq_true h1)
    have HG : Hid (Nat.gcd a b = 1) := by show _ = _; rw [h1]; simp
    clear h1
    go_enter Tryz.func83, Tryz.ntmps83
    go_wp2_with (go_at_call 81; refine (hc _ HX.out.2.1).mono ?_; rintro e w1 ⟨rfl, rfl⟩)
    go_ret
    refine ⟨_, _, _, rfl, ?_, (Below.refl _ _).alloc (Nat.le_refl _) _⟩
    rw [HG.out, one_word]
    exact (Own.whole (B := 0) (Blk.new w1 .u64 60 [1]) (Nat.zero_le _) rfl).row
  · have hc : ∀ W, RowAt W .u64 bo lb cb (mag b) → Calls Tryz.prog 81 #[.slice bo lb cb] W fun e w' => e = .returned (.bool false) ∧ w' = W := fun W h => isOne_any bo lb cb b W h false (decide_eq_false h1)
    by_cases h2 : la = 0
    · have HG : Hid (Nat.gcd a b = b) := gcd_one_len HL.out h2
      subst h2
      go_enter Tryz.func83, Tryz.ntmps83
      go_wp2_with (go_at_call 81; refine (hc _ HX.out.2.1).mono ?_; rintro e w1 ⟨rfl, rfl⟩)
      go_ret
      exact ⟨_, _, _, rfl, by rw [HG.out]; exact HX.out.2.1, Below.refl _ _⟩
    · have h2' : ((la : Int) == 0) = false := by simp; omega
      have ha0 : 0 < a := by
        rcases Nat.eq_zero_or_pos a with e | e
        · subst e; exact absurd (HL.out.trans len_zero) h2
        · exact e
      rcases two_or b with ⟨k, hk⟩ | hk
      · have HK : Hid (b = 2 ^ k) := hk
        clear hk h1 h2
        go_enter Tryz.func83, Tryz.ntmps83
        go_wp2_with (first
          | (go_at_call 81; refine (hc _ HX.out.2.1).mono ?_; rintro e w1 ⟨rfl, hw1⟩; replace hw1 := hw1.symm; subst hw1)
          | (go_at_call 82; refine (isPow_yes bo lb cb b k _ HX.out.2.1 HK.out hl' HX.out.2.2).mono ?_; rintro e w2 ⟨rfl, hb2⟩; have HB : Hid (Below w.heap.size w w2) := hb2; clear hb2)
          | (go_at_call 99; have _t := HA; refine (noughts_any bo lb cb b w2 (HX.out.2.1.later HB.out) h0 hl' (tab_later HX.out.2.2 HB.out)).mono ?_; rintro e w4 ⟨⟨M, rfl, hM, hM2⟩, hw4⟩; replace hw4 := hw4.symm; subst hw4; have HM : Hid (Twos b M) := hM; clear hM; obtain ⟨m, hm⟩ : ∃ m : Nat, min N M = m := ⟨_, rfl⟩; have hmi : min (N : Int) (M : Int) = (m : Int) := (by omega); have HMM : Hid (min N M = m) := hm; have hm2 : m ≤ 68719476736 := (by omega); clear hm)
          | (go_at_call 99; refine (noughts_any ao la ca a w2 (HX.out.1.later HB.out) ha0 hl (tab_later HX.out.2.2 HB.out)).mono ?_; rintro e w3 ⟨⟨N, rfl, hN, hN2⟩, hw3⟩; replace hw3 := hw3.symm; subst hw3; have HA : Hid (Twos a N) := hN; clear hN)
          | (go_at_call 101; refine (powerOfTwo_any m w2 hm2).mono ?_; rintro e w5 ⟨go, lg, cg, rfl, ho5, hb5⟩))
        go_ret
        refine ⟨_, _, _, rfl, ?_, bnext HB.out hb5⟩
        have hMk : M = k := HM.out.one ⟨0, by rw [HK.out]; simp⟩
        rw [HK.out, twos_gcd HA.out, ← hMk, HMM.out]
        exact ho5.row
      · have HK : Hid (∀ k, b ≠ 2 ^ k) := hk
        have hcon : ∀ W, RowAt W .u64 ao la ca (mag a) → RowAt W .u64 bo lb cb (mag b) → TabAt 0 Lib.deBruijn64tab W → Calls Tryz.prog 91 #[.agg #[.bool false, .slice ao la ca], .agg #[.bool false, .slice bo lb cb]] W fun e w' => NewIntErr W w' e ((Nat.gcd a b : Nat) : Int) := fun W r1 r2 t => bgcd_any false false ao bo la ca lb cb (a : Int) (b : Int) W (row_int r1) (row_int r2) (by omega) (by omega) t
        clear hk h1 h2
        go_enter Tryz.func83, Tryz.ntmps83
        go_wp2_with (first
          | (go_at_call 81; refine (hc _ HX.out.2.1).mono ?_; rintro e w1 ⟨rfl, hw1⟩; replace hw1 := hw1.symm; subst hw1)
          | (go_at_call 82; refine (isPow_no bo lb cb b _ HX.out.2.1 h0 HK.out hl' HX.out.2.2).mono ?_; rintro e w2 ⟨rfl, hb2⟩)
          | (go_at_call 91; refine (hcon _ (HX.out.1.later hb2) (HX.out.2.1.later hb2) (tab_later HX.out.2.2 hb2)).mono ?_; rintro e w3 ⟨n3, go, lg, cg, rfl, hs3, ho3, hb3⟩; have HO : Hid (n3 = sgB ((Nat.gcd a b : Nat) : Int) ∧ Own w2.heap.size w3 .u64 60 go lg cg (mag ((Nat.gcd a b : Nat) : Int).natAbs) ∧ Below w.heap.size w w3) := ⟨hs3, ho3, bnext hb2 hb3⟩; clear hs3 ho3 hb3))
        go_ret
        refine ⟨_, _, _, rfl, ?_, below_alloc HO.out.2.2 (Nat.le_refl _)⟩
        have := (own_alloc (o := .cells #[.bool n3, .slice go lg cg] 28) HO.out.2.1).row
        rw [Int.natAbs_natCast] at this
        exact this
theorem apart_any (ao bo : Option Addr) (la ca lb cb a b : Nat) (w : World) (hx : RowAt w .u64 ao la ca (mag a)) (hy : RowAt w .u64 bo lb cb (mag b)) (h0 : 0 < b) (hl : la ≤ 1073741824) (hl' : lb ≤ 1073741824) (hT : TabAt 0 Lib.deBruijn64tab w) (c : Bool) (hcv : decide (Nat.gcd a b = 1) = c) :
    Calls Tryz.prog 53 #[.slice ao la ca, .slice bo lb cb] w fun e w' => e = .returned (.bool c) ∧ Below w.heap.size w w' := by
  have HX : Hid (RowAt w .u64 ao la ca (mag a) ∧ RowAt w .u64 bo lb cb (mag b) ∧ TabAt 0 Lib.deBruijn64tab w) := ⟨hx, hy, hT⟩
  have HL : Hid (la = (mag a).length) := hx.hlen
  have HC : Hid (decide (Nat.gcd a b = 1) = c) := hcv
  by_cases h1 : b = 1
  · have hc : ∀ W, RowAt W .u64 bo lb cb (mag b) → Calls Tryz.prog 81 #[.slice bo lb cb] W fun e w' => e = .returned (.bool true) ∧ w' = W := fun W h => isOne_any bo lb cb b W h true (decide_eq_true h1)
    obtain rfl : c = true := by rw [← HC.out, h1]; simp
    clear h1 hx hy hT hcv
    go_enter Tryz.func53, Tryz.ntmps53
    go_wp2_with (go_at_call 81; refine (hc _ HX.out.2.1).mono ?_; rintro e w1 ⟨rfl, rfl⟩)
    go_ret
    exact ⟨rfl, Below.refl _ _⟩
  · have hc : ∀ W, RowAt W .u64 bo lb cb (mag b) → Calls Tryz.prog 81 #[.slice bo lb cb] W fun e w' => e = .returned (.bool false) ∧ w' = W := fun W h => isOne_any bo lb cb b W h false (decide_eq_false h1)
    rcases two_or b with ⟨k, hk⟩ | hk
    · have HK : Hid (b = 2 ^ k) := hk
      have hk0 : 0 < k := by
        rcases Nat.eq_zero_or_pos k with e | e
        · subst e; exact absurd hk h1
        · exact e
      have HG : Hid (c = decide (a % 2 = 1)) := by
        show _ = _
        rw [← HC.out, hk]
        by_cases e : a % 2 = 1
        · rw [decide_eq_true e, decide_eq_true ((odd_gcd hk0).2 e)]
        · rw [decide_eq_false e, decide_eq_false (fun h => e ((odd_gcd hk0).1 h))]
      by_cases h2 : la = 0
      · obtain rfl : c = false := by
          have : a = 0 := by
            rcases Nat.eq_zero_or_pos a with e | e
            · exact e
            · have := mag_len_pos.2 e; have := HL.out; omega
          rw [HG.out, this]; rfl
        subst h2
        clear hk h1 hx hy hT hcv
        go_enter Tryz.func53, Tryz.ntmps53
        go_wp2_with (first
          | (go_at_call 81; refine (hc _ HX.out.2.1).mono ?_; rintro e w1 ⟨rfl, hw1⟩; replace hw1 := hw1.symm; subst hw1)
          | (go_at_call 82; refine (isPow_yes bo lb cb b k _ HX.out.2.1 HK.out hl' HX.out.2.2).mono ?_; rintro e w2 ⟨rfl, hb2⟩))
        go_ret
        exact ⟨rfl, hb2⟩
      · have h2' : (0 : Int) < (la : Int) := by omega
        obtain ⟨g, off, rfl, hlt, hcl⟩ := hx.get (by omega)
        obtain ⟨x, hxv⟩ : ∃ x : Int, dig (mag a) 0 = x := ⟨_, rfl⟩
        have hcell : w.cell? ⟨g, off, none⟩ = some (.int .u64 x) := by have := hcl 0 (by omega); rw [hxv, Nat.add_zero] at this; exact this
        have hx0 : 0 ≤ x ∧ x < 18446744073709551616 := by rw [← hxv]; exact (mag_wd a).dig (by decide) 0
        have hmod : Int.tmod x 2 = ((a % 2 : Nat) : Int) := by
          rw [Int.tmod_eq_emod_of_nonneg hx0.1, ← hxv]; exact mag_odd
        have HQ : Hid (((((a % 2 : Nat) : Int)) == 1) = c) := by
          show _ = _
          rw [HG.out]
          by_cases e : a % 2 = 1
          · rw [e]; rfl
          · have : a % 2 = 0 := by omega
            rw [this]; rfl
        have HCell : Hid (w.cell? ⟨g, off, none⟩ = some (.int .u64 x)) := hcell
        clear hk h1 hx hy hT hcv hxv hcl h2 hcell
        generalize ((a % 2 : Nat) : Int) = y at hmod HQ
        go_enter Tryz.func53, Tryz.ntmps53
        go_wp2_with (first
          | (go_at_call 81; refine (hc _ HX.out.2.1).mono ?_; rintro e w1 ⟨rfl, hw1⟩; replace hw1 := hw1.symm; subst hw1)
          | (go_at_call 82; refine (isPow_yes bo lb cb b k _ HX.out.2.1 HK.out hl' HX.out.2.2).mono ?_; rintro e w2 ⟨rfl, hb2⟩; have hcell : w2.cell? ⟨g, off, none⟩ = some (.int .u64 x) := (hb2.cell (p := ⟨g, off, none⟩) hlt).trans HCell.out))
        go_ret
        exact ⟨ret_bool HQ.out, hb2⟩
    · have HK : Hid (∀ k, b ≠ 2 ^ k) := hk
      have hone : ∀ (go : Option Addr) (lg cg : Nat) (W : World), RowAt W .u64 go lg cg (mag (Nat.gcd a b)) → Calls Tryz.prog 81 #[.slice go lg cg] W fun e w' => e = .returned (.bool c) ∧ w' = W := fun go lg cg W h => isOne_any go lg cg _ W h c HC.out
      clear hk h1 hx hy hT hcv
      go_enter Tryz.func53, Tryz.ntmps53
      go_wp2_with (first
        | (go_at_call 81; have _t := HG3; refine (hone go lg cg _ HG3.out.1).mono ?_; rintro e w4 ⟨rfl, hw4⟩; replace hw4 := hw4.symm; subst hw4)
        | (go_at_call 81; refine (hc _ HX.out.2.1).mono ?_; rintro e w1 ⟨rfl, hw1⟩; replace hw1 := hw1.symm; subst hw1)
        | (go_at_call 82; refine (isPow_no bo lb cb b _ HX.out.2.1 h0 HK.out hl' HX.out.2.2).mono ?_; rintro e w2 ⟨rfl, hb2⟩)
        | (go_at_call 83; refine (common_any ao bo la ca lb cb a b _ (HX.out.1.later hb2) (HX.out.2.1.later hb2) h0 hl hl' (tab_later HX.out.2.2 hb2)).mono ?_; rintro e w3 ⟨go, lg, cg, rfl, hr3, hb3⟩; have HG3 : Hid (RowAt w3 .u64 go lg cg (mag (Nat.gcd a b)) ∧ Below w.heap.size w w3) := ⟨hr3, bnext hb2 hb3⟩; clear hr3 hb3))
      go_ret
      exact ⟨rfl, HG3.out.2⟩
structure Step8 (n : Nat) : Prop where
  t : True
def Fresh3 (W : World) (r : Nat) : Prop := (∀ j, W.frozen? ⟨r, j, none⟩ = false) ∧ W.cell? ⟨r, 0, none⟩ = some (.bool false) ∧ W.cell? ⟨r, 1, none⟩ = some (.slice none 0 0) ∧ W.cell? ⟨r, 2, none⟩ = some (.slice none 0 0)
theorem Fresh3.later {W w2 : World} {B r : Nat} (k : Fresh3 W r) (h : Below B W w2) (hr : r < B) : Fresh3 w2 r :=
  ⟨fun j => (h.frozen (p := ⟨r, j, none⟩) hr).trans (k.1 j), (h.cell (p := ⟨r, 0, none⟩) hr).trans k.2.1, (h.cell (p := ⟨r, 1, none⟩) hr).trans k.2.2.1, (h.cell (p := ⟨r, 2, none⟩) hr).trans k.2.2.2⟩
def Boxed3 (W : World) (r : Nat) (neg : Bool) (ao : Option Addr) (l c : Nat) (bo : Option Addr) (lb cb : Nat) : Prop := W.cell? ⟨r, 0, none⟩ = some (.bool neg) ∧ W.cell? ⟨r, 1, none⟩ = some (.slice ao l c) ∧ W.cell? ⟨r, 2, none⟩ = some (.slice bo lb cb)
theorem Boxed3.later {W w2 : World} {B r : Nat} {neg : Bool} {ao bo : Option Addr} {l c lb cb : Nat} (k : Boxed3 W r neg ao l c bo lb cb) (h : Below B W w2) (hr : r < B) : Boxed3 w2 r neg ao l c bo lb cb :=
  ⟨(h.cell (p := ⟨r, 0, none⟩) hr).trans k.1, (h.cell (p := ⟨r, 1, none⟩) hr).trans k.2.1, (h.cell (p := ⟨r, 2, none⟩) hr).trans k.2.2⟩
structure RTwo3 (w W : World) (na nb : Bool) (ao po bo qo : Option Addr) (la ca lp cp lb cb lq cq : Nat) : Prop where
  eq : W = ((w.alloc (.cells #[.bool na, .slice ao la ca, .slice po lp cp] 30)).alloc (.cells #[.bool nb, .slice bo lb cb, .slice qo lq cq] 30)).alloc (.cells #[.bool false, .slice none 0 0, .slice none 0 0] 30)
  below : Below w.heap.size w W
  size : W.heap.size = w.heap.size + 3
  a : Boxed3 W w.heap.size na ao la ca po lp cp
  b : Boxed3 W (w.heap.size + 1) nb bo lb cb qo lq cq
  r : Fresh3 W (w.heap.size + 1 + 1)
theorem RTwo3.mk' (w : World) (na nb : Bool) (ao po bo qo : Option Addr) (la ca lp cp lb cb lq cq : Nat) : ∃ W, RTwo3 w W na nb ao po bo qo la ca lp cp lb cb lq cq :=
  ⟨_, rfl, (((Below.refl _ _).alloc (Nat.le_refl _) _).alloc (by simp) _).alloc (by simp; omega) _, by simp, ⟨by simp [go_sem], by simp [go_sem], by simp [go_sem]⟩, ⟨by simp [go_sem], by simp [go_sem], by simp [go_sem]⟩, ⟨fun j => by simp [go_sem], by simp [go_sem], by simp [go_sem], by simp [go_sem]⟩⟩
theorem Own.store3 {B : Nat} {w : World} {k : IntKind} {t : TypeId} {ao : Option Addr} {len cap : Nat} {zs : List Int} (h : Own B w k t ao len cap zs) {r : Nat} (hr : r < B) (x y z : Value) : Own B (((w.setCell ⟨r, 0, none⟩ x).setCell ⟨r, 1, none⟩ y).setCell ⟨r, 2, none⟩ z) k t ao len cap zs :=
  ((h.setOther (a := ⟨r, 0, none⟩) hr x).setOther (a := ⟨r, 1, none⟩) hr y).setOther (a := ⟨r, 2, none⟩) hr z
theorem below_store3 {B r : Nat} {w w2 : World} (hb : Below B w w2) (hr : B ≤ r) (x y z : Value) : Below B w (((w2.setCell ⟨r, 0, none⟩ x).setCell ⟨r, 1, none⟩ y).setCell ⟨r, 2, none⟩ z) :=
  ((hb.setCell (p := ⟨r, 0, none⟩) hr x).setCell (p := ⟨r, 1, none⟩) hr y).setCell (p := ⟨r, 2, none⟩) hr z
end Go.Proofs.YthjkdnlbdhhmbaaGreatDoor
