/-
  HA, HB, HC, HD, HE.
-/
import Derived.Test.YtiemgadnnnhmkaaGreatPO05
import Derived.Test.YtiemgadnnnhmkaaGreatPO06
import Derived.Test.YtiemgadnnnhmkaaGreatPO08
/- Walks: the page's NTimes. -/
namespace Go.Proofs.YtiemgadnnnhmkaaGreat
open Go.RowKit
set_option linter.unusedVariables false
set_option linter.unusedSimpArgs false
theorem below_drawn {B : Nat} {w w' : World} (h : Below B w w') (n : Nat) : Below B w (w'.drewN n) := ⟨h.os, h.tape, h.output, h.size, h.block⟩
theorem prod_start {q : Int} (hq : 0 < q) (x y : List Int) (lx ly : Nat) : ProdSt q (List.replicate (lx + ly) 0) x y 0 lx ly 0 (List.replicate (lx + ly) 0) := by
  refine ⟨rfl, fun _ _ => rfl, wd_zeros hq _, fun j _ _ => dig_zeros _ _, ?_⟩
  rw [V_zeros (fun j hj => dig_zeros _ _)]
  simp [val]
set_option maxRecDepth 100000 in
set_option maxHeartbeats 3000000 in
theorem ntimes_any (ao bo : Option Addr) (la ca lb cb : Nat) (a n2 : Nat) (w : World) (hx : RowAt w .u64 ao la ca (mag a)) (hy : RowAt w .u64 bo lb cb (mag n2)) (hl : la ≤ 1073741824) (hl' : lb ≤ 1073741824) :
    Calls Tryz.prog 77 #[.slice ao la ca, .slice bo lb cb] w fun e w' => NewNat w w' e (a * n2) := by
  obtain ⟨i0, hi, hz0, hz1, hz2⟩ := info_parts info32
  have HI : Hid (RowAt w .u64 ao la ca (mag a) ∧ RowAt w .u64 bo lb cb (mag n2)) := ⟨hx, hy⟩
  clear hx hy
  go_enter Tryz.func77, Tryz.ntmps77
  go_wp2_with (first
    | (go_at_call_of 85 ao; refine (halves_any ao la ca (mag a) _ HI.out.1 (mag_wd a) (by omega) a (mag_val a)).mono ?_; rintro e w0 ⟨⟨xo, lx, cx, rfl, hX0⟩, hb0⟩; have HX0 : Hid (RowAt w0 .u32 xo lx cx (half a)) := hX0; clear hX0)
    | (go_at_call 85; refine (halves_any bo lb cb (mag n2) _ (HI.out.2.later hb0) (mag_wd n2) (by omega) n2 (mag_val n2)).mono ?_; rintro e w1 ⟨⟨yo, ly, cy, rfl, hY⟩, hb1⟩; have HXY : Hid (RowAt w1 .u32 xo lx cx (half a) ∧ RowAt w1 .u32 yo ly cy (half n2) ∧ Below w.heap.size w w1) := ⟨HX0.out.later hb1, hY, bnext hb0 hb1⟩; have hlx : lx ≤ 2147483648 := (by have := half_len_le HI.out.1.hlen; rw [← HXY.out.1.hlen] at this; omega); have hly : ly ≤ 2147483648 := (by have := half_len_le HI.out.2.hlen; rw [← HXY.out.2.1.hlen] at this; omega); have b1 : Hid (i0.bytes * (ly + lx) ≤ 281474976710656) := (by show _ ≤ _; rw [hz2]; omega); have b2 : Hid (ly + lx ≤ maxLen) := (by show _ ≤ _; unfold maxLen; omega); clear HX0 hY hb0 hb1)
    | (at_make; refine wpList_make_full _ rfl (.tmp 19) (.tmp 19) 118 rfl w1.heap.size 120 i0 (.int .u32 0) 1 Tryz.underlying118 hi hz0 hz1 .i64 .i64 _ _ (ly + lx) rfl rfl (by omega) (by omega) b1.out b2.out (Nat.le_refl _) ?_; intro w2 hown2 hgrow2; have HM : Hid (Blk w2 w1.heap.size .u32 120 (List.replicate (ly + lx) 0) ∧ Below w1.heap.size w1 w2) := ⟨made_blk hown2, grown_below hgrow2⟩; clear hown2 hgrow2))
  go_loopw [8] (fun i wr => ∃ (k : Nat) (Lk : List Int), k ≤ lx ∧ i = .int .i64 k ∧ ProdSt 4294967296 (List.replicate (ly + lx) 0) (half n2) (half a) 0 ly lx k Lk ∧ Blk wr w1.heap.size .u32 120 Lk ∧ Below w1.heap.size w1 wr) (fun i _ => lx - (intOf i).toNat)
  case atStart => exact ⟨0, _, Nat.zero_le _, rfl, prod_start (by decide) _ _ _ _, HM.out.1, HM.out.2⟩
  case round =>
    obtain ⟨k, Lk, hk, rfl, hst, hbl, hbel⟩ := hrel
    have HS : Hid (ProdSt 4294967296 (List.replicate (ly + lx) 0) (half n2) (half a) 0 ly lx k Lk ∧ Blk wr w1.heap.size .u32 120 Lk ∧ Below w1.heap.size w1 wr) := ⟨hst, hbl, hbel⟩
    have hlen : Lk.length = ly + lx := by rw [hst.len]; simp
    clear hst hbl hbel
    by_cases hlt : k < lx
    · obtain ⟨b, off, rfl, hb, hc⟩ := HXY.out.1.get (by omega)
      obtain ⟨u, hu⟩ : ∃ u, dig (half a) k = u := ⟨_, rfl⟩
      have HU : Hid (dig (half a) k = u ∧ w1.cell? ⟨b, off + k, none⟩ = some (.int .u32 u)) := ⟨hu, hu ▸ hc k hlt⟩
      have hub : 0 ≤ u ∧ u < 4294967296 := hu ▸ (half_wd a).dig (by decide) k
      obtain ⟨hu1, hu2⟩ := hub
      clear hc hu
      go_wp2
      go_loopw [9, 10] (fun c i w3 => ∃ (j : Nat) (cv : Int) (Lj : List Int), j ≤ ly ∧ i = .int .i64 j ∧ c = .int .u64 cv ∧ MulSt 4294967296 Lk (half n2) u (0 + k) j cv Lj ∧ Blk w3 w1.heap.size .u32 120 Lj ∧ Below w1.heap.size w1 w3) (fun _ i _ => ly - (intOf i).toNat)
      case atStart => exact ⟨0, 0, Lk, Nat.zero_le _, rfl, rfl, MulSt.start _ HS.out.1.wd (by decide), HS.out.2.1, HS.out.2.2⟩
      case round =>
        obtain ⟨j, cv, Lj, hj, rfl, rfl, hst, hbl, hbel⟩ := hrel
        have HT : Hid (MulSt 4294967296 Lk (half n2) u (0 + k) j cv Lj ∧ Blk wr w1.heap.size .u32 120 Lj ∧ Below w1.heap.size w1 wr) := ⟨hst, hbl, hbel⟩
        have hlj : Lj.length = ly + lx := by rw [hst.len]; exact hlen
        have hc0 := hst.c0
        have hc1 := hst.c1
        have hgs : w1.heap.size < wr.heap.size := hbl.lt
        have hbs : b < wr.heap.size := by have := hbel.size; omega
        have hcx : wr.cell? ⟨b, off + k, none⟩ = some (.int .u32 u) := (hbel.cell (p := ⟨b, off + k, none⟩) hb).trans HU.out.2
        by_cases hjl : j < ly
        · obtain ⟨b', off', rfl, hb', hc'⟩ := HXY.out.2.1.get (by omega)
          obtain ⟨v, hv⟩ : ∃ v, dig (half n2) j = v := ⟨_, rfl⟩
          obtain ⟨z, hz⟩ : ∃ z, dig Lj (k + j) = z := ⟨_, rfl⟩
          have hcy : wr.cell? ⟨b', off' + j, none⟩ = some (.int .u32 v) := hv ▸ (hbel.cell (p := ⟨b', off' + j, none⟩) hb').trans (hc' j hjl)
          have hbs' : b' < wr.heap.size := by have := hbel.size; omega
          have hcz : wr.cell? ⟨w1.heap.size, k + j, none⟩ = some (.int .u32 z) := hz ▸ hbl.cell (by omega)
          have hfz := hbl.frozen (k + j)
          obtain ⟨hv1, hv2⟩ : 0 ≤ v ∧ v < 4294967296 := hv ▸ (half_wd n2).dig (by decide) j
          obtain ⟨hz1', hz2'⟩ : 0 ≤ z ∧ z < 4294967296 := hz ▸ hst.wd.dig (by decide) (k + j)
          have hzL : dig Lk (0 + k + j) = z := by rw [← hst.out (0 + k + j) (by omega), ← hz]; congr 1; omega
          have HV : Hid (dig (half n2) j = v ∧ dig Lk (0 + k + j) = z) := ⟨hv, hzL⟩
          obtain ⟨pv, hpv⟩ : ∃ p, u * v = p := ⟨_, rfl⟩
          have hp0 : 0 ≤ pv := hpv ▸ Int.mul_nonneg hu1 hv1
          have hp1 : pv ≤ 18446744065119617025 := by
            have : u * v ≤ 4294967295 * 4294967295 := Int.mul_le_mul (by omega) (by omega) hv1 (by decide)
            omega
          have HP : Hid (u * v = pv) := hpv
          have hkj : k + j < ly + lx := by omega
          clear hst hbl hc' hv hz hzL
          go_wp2
          go_quiet (fail)
          go_wp2
          have HN : Hid (MulSt 4294967296 Lk (half n2) u (0 + k) (j + 1) ((cv + z + pv) / 4294967296) (Lj.set (k + j) ((cv + z + pv) % 4294967296))) := by
            show MulSt _ _ _ _ _ _ _ _
            have h1 : (cv + z + pv) % 4294967296 + (cv + z + pv) / 4294967296 * 4294967296 = cv + z + pv := by omega
            have h2 : v * u = pv := by rw [Int.mul_comm]; exact HP.out
            have h := HT.out.1.step (by omega) (d := (cv + z + pv) % 4294967296) (c' := (cv + z + pv) / 4294967296) (by omega) (by omega) (by rw [HV.out.1, HV.out.2, h2]; omega)
            rw [show 0 + k + j = k + j by omega] at h
            exact h
          go_roundw
          case rel => exact ⟨j + 1, _, _, by omega, by go_num, rfl, HN.out, (HT.out.2.1.drewN _).set _ _, (below_drawn HT.out.2.2 _).setCell (p := ⟨w1.heap.size, k + j, none⟩) (Nat.le_refl _) _⟩
          case measure => simp [intOf]; omega
        · obtain rfl : j = ly := by omega
          have hcz : wr.cell? ⟨w1.heap.size, k + j, none⟩ = some (.int .u32 (dig Lj (k + j))) := hbl.cell (by omega)
          have hfz := hbl.frozen (k + j)
          have ec : cv % 4294967296 = cv := by omega
          have hkj : k + j < j + lx := by omega
          clear hst hbl
          go_wp2
          go_roundw
          case rel => exact ⟨k + 1, Lj.set (0 + (k + j)) cv, by omega, by go_num, HS.out.1.step (by simp) hlt (by rw [← HXY.out.2.1.hlen]; exact Nat.le_refl _) (HU.out.1 ▸ HT.out.1), by rw [Nat.zero_add]; exact HT.out.2.1.set _ _, HT.out.2.2.setCell (p := ⟨w1.heap.size, k + j, none⟩) (Nat.le_refl _) _⟩
          case measure => simp [intOf]; omega
    · obtain rfl : k = lx := by omega
      have HV : Hid (Wd 4294967296 Lk ∧ val 4294967296 Lk = ((a * n2 : Nat) : Int) ∧ ly + k = Lk.length) := by
        have e := HS.out.1.eq
        rw [V_all _ (by omega), List.take_of_length_le (by rw [← HXY.out.1.hlen]; exact Nat.le_refl _), half_val, half_val, ← Int.natCast_mul, Nat.mul_comm] at e
        exact ⟨HS.out.1.wd, e, hlen.symm⟩
      go_wp2_with (first
        | (go_at_call 87; refine (cut_any (some ⟨w1.heap.size, 0, none⟩) (ly + k) (ly + k) Lk _ (Own.whole (B := 0) HS.out.2.1 (Nat.zero_le _) HV.out.2.2).row (by omega)).mono ?_; rintro e w4 ⟨hT, hw4⟩; obtain ⟨ao', n', cap', hn', rfl, hrow', hcan', hval', hrest⟩ := hT; subst hw4; have hn2 : n' ≤ 8589934592 := by omega)
        | (go_at_call 86; refine (whole_any ao' n' cap' (Lk.take n') _ hrow' (HV.out.1.take n') hn2 (a * n2) (by rw [hval', HV.out.2.1])).mono ?_; rintro e w5 ⟨ao5, l5, c5, rfl, ho5, hb5⟩))
      go_ret
      exact ⟨_, _, _, rfl, ho5.mono (by have := HS.out.2.2.size; have := HXY.out.2.2.size; omega), bnext (bnext HXY.out.2.2 HS.out.2.2) hb5⟩
end Go.Proofs.YtiemgadnnnhmkaaGreat
/- Walks: the page's short (a row of halves divided by one). -/
namespace Go.Proofs.YtiemgadnnnhmkaaGreat
open Go.RowKit
set_option linter.unusedVariables false
set_option linter.unusedSimpArgs false
theorem V_low (q : Int) (L : List Int) (off n : Nat) : V q L off (n + 1) = dig L off + q * V q L (off + 1) n := by
  rw [Nat.add_comm n 1, V_split, V_succ, V_zero, Int.pow_succ]; simp
/-- the digits of xs from k on were divided by d; r is left -/
structure ShortSt (q : Int) (xs : List Int) (d : Int) (k n : Nat) (r : Int) (L : List Int) : Prop where
  len : L.length = xs.length
  wd : Wd q L
  r0 : 0 ≤ r
  r1 : r < d
  eq : V q L k n * d + r = V q xs k n
theorem ShortSt.step {q : Int} {xs : List Int} {d : Int} {k n : Nat} {r : Int} {L : List Int} (h : ShortSt q xs d (k + 1) n r L) (hk : k < xs.length) {u r' : Int} (hu : 0 ≤ u ∧ u < q) (hr : 0 ≤ r' ∧ r' < d) (he : u * d + r' = r * q + dig xs k) : ShortSt q xs d k (n + 1) r' (L.set k u) := by
  have hl : k < L.length := by rw [h.len]; exact hk
  refine ⟨by simp [h.len], h.wd.set _ hu, hr.1, hr.2, ?_⟩
  have e1 : V q (L.set k u) (k + 1) n = V q L (k + 1) n := V_congr fun j hj => by rw [dig_set _ hl, if_neg (by omega)]
  rw [V_low, V_low, e1, dig_set _ hl, if_pos rfl]
  have h1 := h.eq
  grind
end Go.Proofs.YtiemgadnnnhmkaaGreat
/- Walks: the page's Up2. -/
namespace Go.Proofs.YtiemgadnnnhmkaaGreat
open Go.RowKit
set_option linter.unusedVariables false
set_option linter.unusedSimpArgs false
/-- j noughts, then the first k digits of zs, times P; c is carried -/
structure Up2St (zs : List Int) (j k : Nat) (P c : Int) (L : List Int) : Prop where
  len : L.length = j + k
  wd : Wd 18446744073709551616 L
  c0 : 0 ≤ c
  c1 : c < P
  eq : val 18446744073709551616 L + c * 18446744073709551616 ^ (j + k) = 18446744073709551616 ^ j * (val 18446744073709551616 (zs.take k) * P)
theorem Up2St.step {zs : List Int} {j k : Nat} {P c : Int} {L : List Int} (h : Up2St zs j k P c L) {d c' : Int} (hd : 0 ≤ d ∧ d < 18446744073709551616) (hc : 0 ≤ c' ∧ c' < P) (he : d + c' * 18446744073709551616 = dig zs k * P + c) : Up2St zs j (k + 1) P c' (L ++ [d]) := by
  refine ⟨by simp [h.len]; omega, h.wd.append (Wd.one hd), hc.1, hc.2, ?_⟩
  have h1 := h.eq
  rw [val_snoc, h.len, val_take_dig, show j + (k + 1) = j + k + 1 by omega, Int.pow_succ]
  have e2 : 18446744073709551616 ^ (j + k) * (d + c' * 18446744073709551616) = 18446744073709551616 ^ (j + k) * (dig zs k * P + c) := by rw [he]
  rw [Int.pow_add] at h1 e2 ⊢
  grind
end Go.Proofs.YtiemgadnnnhmkaaGreat
/- Walks: the page's Down2. -/
namespace Go.Proofs.YtiemgadnnnhmkaaGreat
open Go.RowKit
set_option linter.unusedVariables false
set_option linter.unusedSimpArgs false
/-- the digits of zs from j on, k of them, over P -/
structure Down2St (zs : List Int) (j k : Nat) (P : Int) (L : List Int) : Prop where
  len : L.length = k
  wd : Wd 18446744073709551616 L
  eq : val 18446744073709551616 L * P + dig zs j % P = V 18446744073709551616 zs j k + dig zs (j + k) % P * 18446744073709551616 ^ k
theorem Down2St.step {zs : List Int} {j k : Nat} {P : Int} {L : List Int} (h : Down2St zs j k P L) {d : Int} (hd : 0 ≤ d ∧ d < 18446744073709551616) (he : d * P + dig zs (j + k) % P = dig zs (j + k) + dig zs (j + k + 1) % P * 18446744073709551616) : Down2St zs j (k + 1) P (L ++ [d]) := by
  refine ⟨by simp [h.len], h.wd.append (Wd.one hd), ?_⟩
  have h1 := h.eq
  rw [val_snoc, h.len, V_succ, Int.pow_succ, show j + (k + 1) = j + k + 1 by omega]
  have e2 : 18446744073709551616 ^ k * (d * P + dig zs (j + k) % P) = 18446744073709551616 ^ k * (dig zs (j + k) + dig zs (j + k + 1) % P * 18446744073709551616) := by rw [he]
  grind
end Go.Proofs.YtiemgadnnnhmkaaGreat
/- Walks: the page's Times, Zero. -/
namespace Go.Proofs.YtiemgadnnnhmkaaGreat
open Go.RowKit
set_option linter.unusedVariables false
set_option linter.unusedSimpArgs false
set_option maxRecDepth 100000 in
set_option maxHeartbeats 1000000 in
theorem rtimes_any (na nb : Bool) (ao bo : Option Addr) (la ca lb cb : Nat) (a b : Int) (w : World) (hx : IntAt w na ao la ca a) (hy : IntAt w nb bo lb cb b) (hl : la ≤ 1073741824) (hl' : lb ≤ 1073741824) :
    Calls Tryz.prog 59 #[.agg #[.bool na, .slice ao la ca], .agg #[.bool nb, .slice bo lb cb]] w fun e w' => NewInt w w' e (a * b) := by
  obtain ⟨W, hT⟩ := Two3.mk' w na nb ao bo la ca lb cb
  have hsz := hT.size
  have HV : Hid (a * b = sgn (na != nb) (a.natAbs * b.natAbs)) := sgn_mul hx.sg hy.sg
  have hRx := hx.later hT.below
  have hRy := hy.later hT.below
  clear hx hy
  have KS : Hid (∀ w' : World, Below (w.heap.size + 2) W w' → (Below (w.heap.size + 2) W w' ∧ w'.cell? ⟨w.heap.size, 0, none⟩ = some (.bool na) ∧ w'.cell? ⟨w.heap.size, 1, none⟩ = some (.slice ao la ca) ∧ w'.cell? ⟨w.heap.size + 1, 0, none⟩ = some (.bool nb) ∧ w'.cell? ⟨w.heap.size + 1, 1, none⟩ = some (.slice bo lb cb))) := fun w' h => ⟨h, (h.cell (p := ⟨w.heap.size, 0, none⟩) (by show w.heap.size < _; omega)).trans hT.a.1, (h.cell (p := ⟨w.heap.size, 1, none⟩) (by show w.heap.size < _; omega)).trans hT.a.2, (h.cell (p := ⟨w.heap.size + 1, 0, none⟩) (by show w.heap.size + 1 < _; omega)).trans hT.b.1, (h.cell (p := ⟨w.heap.size + 1, 1, none⟩) (by show w.heap.size + 1 < _; omega)).trans hT.b.2⟩
  have K1 : Hid (∀ w1 w2 : World, (Below (w.heap.size + 2) W w1 ∧ w1.cell? ⟨w.heap.size, 0, none⟩ = some (.bool na) ∧ w1.cell? ⟨w.heap.size, 1, none⟩ = some (.slice ao la ca) ∧ w1.cell? ⟨w.heap.size + 1, 0, none⟩ = some (.bool nb) ∧ w1.cell? ⟨w.heap.size + 1, 1, none⟩ = some (.slice bo lb cb)) → Below w1.heap.size w1 w2 → (Below (w.heap.size + 2) W w2 ∧ w2.cell? ⟨w.heap.size, 0, none⟩ = some (.bool na) ∧ w2.cell? ⟨w.heap.size, 1, none⟩ = some (.slice ao la ca) ∧ w2.cell? ⟨w.heap.size + 1, 0, none⟩ = some (.bool nb) ∧ w2.cell? ⟨w.heap.size + 1, 1, none⟩ = some (.slice bo lb cb))) := fun w1 w2 h hb => KS.out _ (h.1.trans (hb.mono (by have := h.1.size; omega)))
  have K2 : Hid (∀ w1 w2 : World, (Below (w.heap.size + 2) W w1 ∧ w1.cell? ⟨w.heap.size, 0, none⟩ = some (.bool na) ∧ w1.cell? ⟨w.heap.size, 1, none⟩ = some (.slice ao la ca) ∧ w1.cell? ⟨w.heap.size + 1, 0, none⟩ = some (.bool nb) ∧ w1.cell? ⟨w.heap.size + 1, 1, none⟩ = some (.slice bo lb cb)) → Below (w.heap.size + 2) w1 w2 → (Below (w.heap.size + 2) W w2 ∧ w2.cell? ⟨w.heap.size, 0, none⟩ = some (.bool na) ∧ w2.cell? ⟨w.heap.size, 1, none⟩ = some (.slice ao la ca) ∧ w2.cell? ⟨w.heap.size + 1, 0, none⟩ = some (.bool nb) ∧ w2.cell? ⟨w.heap.size + 1, 1, none⟩ = some (.slice bo lb cb))) := fun w1 w2 h hb => KS.out _ (h.1.trans hb)
  go_enter Tryz.func59, Tryz.ntmps59
  go_wp2
  rw [← hT.eq]
  go_region_held3 (fun w' => Below (w.heap.size + 2) W w' ∧ w'.cell? ⟨w.heap.size, 0, none⟩ = some (.bool na) ∧ w'.cell? ⟨w.heap.size, 1, none⟩ = some (.slice ao la ca) ∧ w'.cell? ⟨w.heap.size + 1, 0, none⟩ = some (.bool nb) ∧ w'.cell? ⟨w.heap.size + 1, 1, none⟩ = some (.slice bo lb cb))
    (first
      | exact KS.out _ (Below.refl _ _).drew
      | exact K1.out _ _ (by assumption) (by assumption)
      | exact K2.out _ _ (by assumption) (below_store (Below.refl _ _) (by omega) _ _))
    (first
      | (go_at_call 77; refine (ntimes_any ao bo la ca lb cb _ _ _ (hRx.row.later (Below.refl _ _).drew) (hRy.row.later (Below.refl _ _).drew) (by omega) (by omega)).mono ?_; rintro e w2 ⟨ao2, l2, c2, rfl, ho2, hb2⟩; have hlen2 : l2 ≤ 4294967296 := (by rw [ho2.row.hlen]; have q := mag_len_mul a.natAbs b.natAbs; rw [← hRx.row.hlen, ← hRy.row.hlen] at q; omega))
      | (go_at_call 60; refine (made_any (na != nb) ao2 l2 c2 _ (by omega)).mono ?_; rintro e w3 ⟨rfl, hb3⟩; obtain ⟨g5, g3, g4⟩ := hT.r.later (bnext (Below.refl _ _).drew (bnext hb2 hb3)) (by omega)))
  go_wp2
  have hN := NewInt.ret (w := w) ((ho2.later hb3).store (r := w.heap.size + 1 + 1) (by show _ < W.heap.size; omega) (.bool ((na != nb) && decide (0 < l2))) (.slice ao2 l2 c2)) (by show _ ≤ W.heap.size; omega) HV.out (below_store (bnext hT.below (bnext (Below.refl _ _).drew (bnext hb2 hb3))) (by omega) _ _)
  exact bodyPost_ret (v := .agg #[.bool ((na != nb) && decide (0 < l2)), .slice ao2 l2 c2]) (by simp [results, Tryz.results59, go_sem, g3, g4]) rfl hN
set_option maxRecDepth 100000 in
theorem rzero_any (neg : Bool) (ao : Option Addr) (len cap : Nat) (w : World) (c : Bool) (hc : ((len : Int) == 0) = c) :
    Calls Tryz.prog 39 #[.agg #[.bool neg, .slice ao len cap]] w fun e w' => e = .returned (.bool c) ∧ Below w.heap.size w w' := by
  go_enter Tryz.func39, Tryz.ntmps39
  go_wp2
  go_ret
  exact ⟨by rw [← hc]; rfl, (Below.refl _ _).alloc (Nat.le_refl _) _⟩
end Go.Proofs.YtiemgadnnnhmkaaGreat
