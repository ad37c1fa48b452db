/-
  HA, HB, HC, HD, HE.
-/
import Derived.Test.YtdanaebhjkbfmaaGreatPH04
import Derived.Test.YtdanaebhjkbfmaaGreatPH05
import Derived.Test.YtdanaebhjkbfmaaGreatPH08
/- Walks: the page's NTimes. -/
namespace Go.Proofs.YtdanaebhjkbfmaaGreat
open Go.RowKit
set_option linter.unusedVariables false
set_option linter.unusedSimpArgs false
theorem below_drawn {B : Nat} {w w' : World} (h : Below B w w') (n : Nat) : Below B w (w'.drewN n) := ⟨h.os, h.tape, h.output, h.size, h.block⟩
theorem prod_start {q : Int} (hq : 0 < q) (x y : List Int) (lx ly : Nat) : ProdSt q (List.replicate (lx + ly) 0) x y 0 lx ly 0 (List.replicate (lx + ly) 0) := by
  refine ⟨rfl, fun _ _ => rfl, wd_zeros hq _, fun j _ _ => dig_zeros _ _, ?_⟩
  rw [V_zeros (fun j hj => dig_zeros _ _)]
  simp [val]
set_option maxRecDepth 100000 in
set_option maxHeartbeats 3000000 in
theorem ntimes_any (ao bo : Option Addr) (la ca lb cb : Nat) (a n2 : Nat) (w : World) (hx : RowAt w .u64 ao la ca (mag a)) (hy : RowAt w .u64 bo lb cb (mag n2)) (hl : la ≤ 1073741824) (hl' : lb ≤ 1073741824) :
    Calls Tryz.prog 84 #[.slice ao la ca, .slice bo lb cb] w fun e w' => NewNat w w' e (a * n2) := by
  obtain ⟨i0, hi, hz0, hz1, hz2⟩ := info_parts info32
  have HI : Hid (RowAt w .u64 ao la ca (mag a) ∧ RowAt w .u64 bo lb cb (mag n2)) := ⟨hx, hy⟩
  clear hx hy
  go_enter Tryz.func84, Tryz.ntmps84
  go_wp2_with (first
    | (go_at_call_of 98 ao; refine (halves_any ao la ca (mag a) _ HI.out.1 (mag_wd a) (by omega) a (mag_val a)).mono ?_; rintro e w0 ⟨⟨xo, lx, cx, rfl, hX0⟩, hb0⟩; have HX0 : Hid (RowAt w0 .u32 xo lx cx (half a)) := hX0; clear hX0)
    | (go_at_call 98; refine (halves_any bo lb cb (mag n2) _ (HI.out.2.later hb0) (mag_wd n2) (by omega) n2 (mag_val n2)).mono ?_; rintro e w1 ⟨⟨yo, ly, cy, rfl, hY⟩, hb1⟩; have HXY : Hid (RowAt w1 .u32 xo lx cx (half a) ∧ RowAt w1 .u32 yo ly cy (half n2) ∧ Below w.heap.size w w1) := ⟨HX0.out.later hb1, hY, bnext hb0 hb1⟩; have hlx : lx ≤ 2147483648 := (by have := half_len_le HI.out.1.hlen; rw [← HXY.out.1.hlen] at this; omega); have hly : ly ≤ 2147483648 := (by have := half_len_le HI.out.2.hlen; rw [← HXY.out.2.1.hlen] at this; omega); have b1 : Hid (i0.bytes * (ly + lx) ≤ 281474976710656) := (by show _ ≤ _; rw [hz2]; omega); have b2 : Hid (ly + lx ≤ maxLen) := (by show _ ≤ _; unfold maxLen; omega); clear HX0 hY hb0 hb1)
    | (at_make; refine wpList_make_full _ rfl (.tmp 19) (.tmp 19) 103 rfl w1.heap.size 105 i0 (.int .u32 0) 1 Tryz.underlying103 hi hz0 hz1 .i64 .i64 _ _ (ly + lx) rfl rfl (by omega) (by omega) b1.out b2.out (Nat.le_refl _) ?_; intro w2 hown2 hgrow2; have HM : Hid (Blk w2 w1.heap.size .u32 105 (List.replicate (ly + lx) 0) ∧ Below w1.heap.size w1 w2) := ⟨made_blk hown2, grown_below hgrow2⟩; clear hown2 hgrow2))
  go_loopw [8] (fun i wr => ∃ (k : Nat) (Lk : List Int), k ≤ lx ∧ i = .int .i64 k ∧ ProdSt 4294967296 (List.replicate (ly + lx) 0) (half n2) (half a) 0 ly lx k Lk ∧ Blk wr w1.heap.size .u32 105 Lk ∧ Below w1.heap.size w1 wr) (fun i _ => lx - (intOf i).toNat)
  case atStart => exact ⟨0, _, Nat.zero_le _, rfl, prod_start (by decide) _ _ _ _, HM.out.1, HM.out.2⟩
  case round =>
    obtain ⟨k, Lk, hk, rfl, hst, hbl, hbel⟩ := hrel
    have HS : Hid (ProdSt 4294967296 (List.replicate (ly + lx) 0) (half n2) (half a) 0 ly lx k Lk ∧ Blk wr w1.heap.size .u32 105 Lk ∧ Below w1.heap.size w1 wr) := ⟨hst, hbl, hbel⟩
    have hlen : Lk.length = ly + lx := by rw [hst.len]; simp
    clear hst hbl hbel
    by_cases hlt : k < lx
    · obtain ⟨b, off, rfl, hb, hc⟩ := HXY.out.1.get (by omega)
      obtain ⟨u, hu⟩ : ∃ u, dig (half a) k = u := ⟨_, rfl⟩
      have HU : Hid (dig (half a) k = u ∧ w1.cell? ⟨b, off + k, none⟩ = some (.int .u32 u)) := ⟨hu, hu ▸ hc k hlt⟩
      have hub : 0 ≤ u ∧ u < 4294967296 := hu ▸ (half_wd a).dig (by decide) k
      obtain ⟨hu1, hu2⟩ := hub
      clear hc hu
      go_wp2
      go_loopw [9, 10] (fun c i w3 => ∃ (j : Nat) (cv : Int) (Lj : List Int), j ≤ ly ∧ i = .int .i64 j ∧ c = .int .u64 cv ∧ MulSt 4294967296 Lk (half n2) u (0 + k) j cv Lj ∧ Blk w3 w1.heap.size .u32 105 Lj ∧ Below w1.heap.size w1 w3) (fun _ i _ => ly - (intOf i).toNat)
      case atStart => exact ⟨0, 0, Lk, Nat.zero_le _, rfl, rfl, MulSt.start _ HS.out.1.wd (by decide), HS.out.2.1, HS.out.2.2⟩
      case round =>
        obtain ⟨j, cv, Lj, hj, rfl, rfl, hst, hbl, hbel⟩ := hrel
        have HT : Hid (MulSt 4294967296 Lk (half n2) u (0 + k) j cv Lj ∧ Blk wr w1.heap.size .u32 105 Lj ∧ Below w1.heap.size w1 wr) := ⟨hst, hbl, hbel⟩
        have hlj : Lj.length = ly + lx := by rw [hst.len]; exact hlen
        have hc0 := hst.c0
        have hc1 := hst.c1
        have hgs : w1.heap.size < wr.heap.size := hbl.lt
        have hbs : b < wr.heap.size := by have := hbel.size; omega
        have hcx : wr.cell? ⟨b, off + k, none⟩ = some (.int .u32 u) := (hbel.cell (p := ⟨b, off + k, none⟩) hb).trans HU.out.2
        by_cases hjl : j < ly
        · obtain ⟨b', off', rfl, hb', hc'⟩ := HXY.out.2.1.get (by omega)
          obtain ⟨v, hv⟩ : ∃ v, dig (half n2) j = v := ⟨_, rfl⟩
          obtain ⟨z, hz⟩ : ∃ z, dig Lj (k + j) = z := ⟨_, rfl⟩
          have hcy : wr.cell? ⟨b', off' + j, none⟩ = some (.int .u32 v) := hv ▸ (hbel.cell (p := ⟨b', off' + j, none⟩) hb').trans (hc' j hjl)
          have hbs' : b' < wr.heap.size := by have := hbel.size; omega
          have hcz : wr.cell? ⟨w1.heap.size, k + j, none⟩ = some (.int .u32 z) := hz ▸ hbl.cell (by omega)
          have hfz := hbl.frozen (k + j)
          obtain ⟨hv1, hv2⟩ : 0 ≤ v ∧ v < 4294967296 := hv ▸ (half_wd n2).dig (by decide) j
          obtain ⟨hz1', hz2'⟩ : 0 ≤ z ∧ z < 4294967296 := hz ▸ hst.wd.dig (by decide) (k + j)
          have hzL : dig Lk (0 + k + j) = z := by rw [← hst.out (0 + k + j) (by omega), ← hz]; congr 1; omega
          have HV : Hid (dig (half n2) j = v ∧ dig Lk (0 + k + j) = z) := ⟨hv, hzL⟩
          obtain ⟨pv, hpv⟩ : ∃ p, u * v = p := ⟨_, rfl⟩
          have hp0 : 0 ≤ pv := hpv ▸ Int.mul_nonneg hu1 hv1
          have hp1 : pv ≤ 18446744065119617025 := by
            have : u * v ≤ 4294967295 * 4294967295 := Int.mul_le_mul (by omega) (by omega) hv1 (by decide)
            omega
          have HP : Hid (u * v = pv) := hpv
          have hkj : k + j < ly + lx := by omega
          clear hst hbl hc' hv hz hzL
          go_wp2
          go_quiet (fail)
          go_wp2
          have HN : Hid (MulSt 4294967296 Lk (half n2) u (0 + k) (j + 1) ((cv + z + pv) / 4294967296) (Lj.set (k + j) ((cv + z + pv) % 4294967296))) := by
            show MulSt _ _ _ _ _ _ _ _
            have h1 : (cv + z + pv) % 4294967296 + (cv + z + pv) / 4294967296 * 4294967296 = cv + z + pv := by omega
            have h2 : v * u = pv := by rw [Int.mul_comm]; exact HP.out
            have h := HT.out.1.step (by omega) (d := (cv + z + pv) % 4294967296) (c' := (cv + z + pv) / 4294967296) (by omega) (by omega) (by rw [HV.out.1, HV.out.2, h2]; omega)
            rw [show 0 + k + j = k + j by omega] at h
            exact h
          go_roundw
          case rel => exact ⟨j + 1, _, _, by omega, by go_num, rfl, HN.out, (HT.out.2.1.drewN _).set _ _, (below_drawn HT.out.2.2 _).setCell (p := ⟨w1.heap.size, k + j, none⟩) (Nat.le_refl _) _⟩
          case measure => simp [intOf]; omega
        · obtain rfl : j = ly := by omega
          have hcz : wr.cell? ⟨w1.heap.size, k + j, none⟩ = some (.int .u32 (dig Lj (k + j))) := hbl.cell (by omega)
          have hfz := hbl.frozen (k + j)
          have ec : cv % 4294967296 = cv := by omega
          have hkj : k + j < j + lx := by omega
          clear hst hbl
          go_wp2
          go_roundw
          case rel => exact ⟨k + 1, Lj.set (0 + (k + j)) cv, by omega, by go_num, HS.out.1.step (by simp) hlt (by rw [← HXY.out.2.1.hlen]; exact Nat.le_refl _) (HU.out.1 ▸ HT.out.1), by rw [Nat.zero_add]; exact HT.out.2.1.set _ _, HT.out.2.2.setCell (p := ⟨w1.heap.size, k + j, none⟩) (Nat.le_refl _) _⟩
          case measure => simp [intOf]; omega
    · obtain rfl : k = lx := by omega
      have HV : Hid (Wd 4294967296 Lk ∧ val 4294967296 Lk = ((a * n2 : Nat) : Int) ∧ ly + k = Lk.length) := by
        have e := HS.out.1.eq
        rw [V_all _ (by omega), List.take_of_length_le (by rw [← HXY.out.1.hlen]; exact Nat.le_refl _), half_val, half_val, ← Int.natCast_mul, Nat.mul_comm] at e
        exact ⟨HS.out.1.wd, e, hlen.symm⟩
      go_wp2_with (first
        | (go_at_call 100; refine (cut_any (some ⟨w1.heap.size, 0, none⟩) (ly + k) (ly + k) Lk _ (Own.whole (B := 0) HS.out.2.1 (Nat.zero_le _) HV.out.2.2).row (by omega)).mono ?_; rintro e w4 ⟨hT, hw4⟩; obtain ⟨ao', n', cap', hn', rfl, hrow', hcan', hval', hrest⟩ := hT; subst hw4; have hn2 : n' ≤ 8589934592 := by omega)
        | (go_at_call 99; refine (whole_any ao' n' cap' (Lk.take n') _ hrow' (HV.out.1.take n') hn2 (a * n2) (by rw [hval', HV.out.2.1])).mono ?_; rintro e w5 ⟨ao5, l5, c5, rfl, ho5, hb5⟩))
      go_ret
      exact ⟨_, _, _, rfl, ho5.mono (by have := HS.out.2.2.size; have := HXY.out.2.2.size; omega), bnext (bnext HXY.out.2.2 HS.out.2.2) hb5⟩
end Go.Proofs.YtdanaebhjkbfmaaGreat
/- Walks: the page's short (a row of halves divided by one). -/
namespace Go.Proofs.YtdanaebhjkbfmaaGreat
open Go.RowKit
set_option linter.unusedVariables false
set_option linter.unusedSimpArgs false
theorem V_low (q : Int) (L : List Int) (off n : Nat) : V q L off (n + 1) = dig L off + q * V q L (off + 1) n := by
  rw [Nat.add_comm n 1, V_split, V_succ, V_zero, Int.pow_succ]; simp
/-- the digits of xs from k on were divided by d; r is left -/
structure ShortSt (q : Int) (xs : List Int) (d : Int) (k n : Nat) (r : Int) (L : List Int) : Prop where
  len : L.length = xs.length
  wd : Wd q L
  r0 : 0 ≤ r
  r1 : r < d
  eq : V q L k n * d + r = V q xs k n
theorem ShortSt.step {q : Int} {xs : List Int} {d : Int} {k n : Nat} {r : Int} {L : List Int} (h : ShortSt q xs d (k + 1) n r L) (hk : k < xs.length) {u r' : Int} (hu : 0 ≤ u ∧ u < q) (hr : 0 ≤ r' ∧ r' < d) (he : u * d + r' = r * q + dig xs k) : ShortSt q xs d k (n + 1) r' (L.set k u) := by
  have hl : k < L.length := by rw [h.len]; exact hk
  refine ⟨by simp [h.len], h.wd.set _ hu, hr.1, hr.2, ?_⟩
  have e1 : V q (L.set k u) (k + 1) n = V q L (k + 1) n := V_congr fun j hj => by rw [dig_set _ hl, if_neg (by omega)]
  rw [V_low, V_low, e1, dig_set _ hl, if_pos rfl]
  have h1 := h.eq
  grind
end Go.Proofs.YtdanaebhjkbfmaaGreat
/- Walks: the page's Up2. -/
namespace Go.Proofs.YtdanaebhjkbfmaaGreat
open Go.RowKit
set_option linter.unusedVariables false
set_option linter.unusedSimpArgs false
/-- j noughts, then the first k digits of zs, times P; c is carried -/
structure Up2St (zs : List Int) (j k : Nat) (P c : Int) (L : List Int) : Prop where
  len : L.length = j + k
  wd : Wd 18446744073709551616 L
  c0 : 0 ≤ c
  c1 : c < P
  eq : val 18446744073709551616 L + c * 18446744073709551616 ^ (j + k) = 18446744073709551616 ^ j * (val 18446744073709551616 (zs.take k) * P)
theorem Up2St.step {zs : List Int} {j k : Nat} {P c : Int} {L : List Int} (h : Up2St zs j k P c L) {d c' : Int} (hd : 0 ≤ d ∧ d < 18446744073709551616) (hc : 0 ≤ c' ∧ c' < P) (he : d + c' * 18446744073709551616 = dig zs k * P + c) : Up2St zs j (k + 1) P c' (L ++ [d]) := by
  refine ⟨by simp [h.len]; omega, h.wd.append (Wd.one hd), hc.1, hc.2, ?_⟩
  have h1 := h.eq
  rw [val_snoc, h.len, val_take_dig, show j + (k + 1) = j + k + 1 by omega, Int.pow_succ]
  have e2 : 18446744073709551616 ^ (j + k) * (d + c' * 18446744073709551616) = 18446744073709551616 ^ (j + k) * (dig zs k * P + c) := by rw [he]
  rw [Int.pow_add] at h1 e2 ⊢
  grind
theorem Up2St.ending {a n l : Nat} {c : Int} {L : List Int} (hl : l = (mag a).length) (h : Up2St (mag a) (n / 64) l (2 ^ (n % 64)) c L) : val 18446744073709551616 (L ++ [c]) = ((a * 2 ^ n : Nat) : Int) ∧ Wd 18446744073709551616 (L ++ [c]) := by
  have h1 : c < 18446744073709551616 := by
    have h2 := h.c1
    have h3 : (2 : Int) ^ (n % 64) ≤ 2 ^ 64 := pow_mono' (by decide) (by omega)
    omega
  have e := h.eq
  rw [hl, List.take_length, mag_val, ← hl] at e
  refine ⟨?_, h.wd.append (Wd.one ⟨h.c0, h1⟩)⟩
  rw [val_snoc, h.len, Int.mul_comm, e, Int.natCast_mul, Int.natCast_pow, show (18446744073709551616 : Int) = 2 ^ 64 from rfl, ← Int.pow_mul, Int.mul_left_comm, ← Int.pow_add, show 64 * (n / 64) + n % 64 = n by omega]
  rfl
theorem zeros_val (q : Int) (n : Nat) : val q (List.replicate n 0) = 0 := by
  rw [← V_all q (n := n) (by simp)]; exact V_zeros (fun j _ => dig_zeros _ _)
set_option maxRecDepth 100000 in
set_option maxHeartbeats 3000000 in
theorem up2_any (ao : Option Addr) (la ca n : Nat) (a : Nat) (w : World) (hx : RowAt w .u64 ao la ca (mag a)) (hl : la ≤ 4294967296) (hn : n < 274877906944) :
    Calls Tryz.prog 61 #[.slice ao la ca, .int .i64 (n : Int)] w fun e w' => NewNat w w' e (a * 2 ^ n) := by
  obtain ⟨i0, hi, hz0, hz1, hz2⟩ := info_parts info64
  have hdiv : (n : Int).tdiv 64 = ((n / 64 : Nat) : Int) := by rw [Int.tdiv_eq_ediv_of_nonneg (by omega)]; omega
  have hmod : (n : Int).tmod 64 = ((n % 64 : Nat) : Int) := by rw [Int.tmod_eq_emod_of_nonneg (by omega)]; omega
  obtain ⟨j, hj⟩ : ∃ j, n / 64 = j := ⟨_, rfl⟩
  obtain ⟨s, hs⟩ : ∃ s, n % 64 = s := ⟨_, rfl⟩
  have hs64 : s < 64 := by omega
  have hj' : j ≤ 4294967296 := by omega
  rw [hj] at hdiv; rw [hs] at hmod
  have HX : Hid (RowAt w .u64 ao la ca (mag a) ∧ la = (mag a).length) := ⟨hx, hx.hlen⟩
  have HJ : Hid (n / 64 = j ∧ n % 64 = s) := ⟨hj, hs⟩
  clear hj hs
  by_cases hge : la = 0
  · subst hge
    have HZ : Hid (a * 2 ^ n = 0) := by
      show _ = _
      have : ¬ 0 < a := fun h => by have := mag_len_pos.2 h; rw [← hx.hlen] at this; omega
      rw [show a = 0 by omega, Nat.zero_mul]
    clear hx
    go_enter Tryz.func61, Tryz.ntmps61
    go_wp2
    go_ret
    exact ⟨none, 0, 0, rfl, by rw [HZ.out]; exact Own.none_, Below.refl _ _⟩
  · have hge' : ((la : Int) == 0) = false := by simp; omega
    have b1 : Hid (i0.bytes * j ≤ 281474976710656) := by show _ ≤ _; rw [hz2]; omega
    have b2 : Hid (j ≤ maxLen) := by show _ ≤ _; unfold maxLen; omega
    clear hx
    go_enter Tryz.func61, Tryz.ntmps61
    go_wp2_with (at_make; refine wpList_make_full _ rfl (.tmp 13) (.tmp 13) 26 rfl w.heap.size 73 i0 (.int .u64 0) 1 Tryz.underlying26 hi hz0 hz1 .i64 .i64 _ _ j rfl rfl (by omega) (by omega) b1.out b2.out (Nat.le_refl _) ?_; intro w1 hown1 hgrow1; have HB : Hid (w1.ownsRow w.heap.size 73 1 (.slice (some ⟨w.heap.size, 0, none⟩) j j) j ((List.replicate j (0 : Int)).map (Value.int .u64)) ∧ Below w.heap.size w w1) := ⟨by rw [made_map] at hown1; exact hown1, grown_below hgrow1⟩; clear hown1 hgrow1)
    go_loopw [5, 7, 8] (fun v c i wr => ∃ (k : Nat) (cv : Int) (L : List Int), k ≤ la ∧ i = .int .i64 k ∧ c = .int .u64 cv ∧ Up2St (mag a) j k (2 ^ s) cv L ∧ wr.ownsRow w.heap.size 73 1 v (j + k) (L.map (Value.int .u64)) ∧ Below w.heap.size w wr) (fun _ _ i _ => la - (intOf i).toNat)
    case atStart => exact ⟨0, 0, List.replicate j 0, Nat.zero_le _, rfl, rfl, ⟨by simp, wd_zeros (by decide) _, by decide, Int.pow_pos (by decide), by rw [zeros_val]; simp [val]⟩, HB.out.1, HB.out.2⟩
    case round =>
      obtain ⟨k, cv, L, hk, rfl, rfl, hst, hown, hbel⟩ := hrel
      have HS : Hid (Up2St (mag a) j k (2 ^ s) cv L) := hst
      have h63 : Hid (j + k + 1 ≤ maxLen) := by show _ ≤ _; unfold maxLen; omega
      have hby : Hid ((j + k + 1) * 8 ≤ 140737488355328) := by show _ ≤ _; omega
      have hbz : Hid (w.heap.size ≤ wr.heap.size + 1) := by show _ ≤ _; have := hbel.size; omega
      by_cases hlt : k < la
      · obtain ⟨b, off, rfl, hb, hc⟩ := HX.out.1.get (by omega)
        obtain ⟨x, hx⟩ : ∃ x, dig (mag a) k = x := ⟨_, rfl⟩
        have hcx : wr.cell? ⟨b, off + k, none⟩ = some (.int .u64 x) := hx ▸ (hbel.cell (p := ⟨b, off + k, none⟩) hb).trans (hc k hlt)
        have hbs : b < wr.heap.size := by have := hbel.size; omega
        have bx : 0 ≤ x ∧ x < 18446744073709551616 := hx ▸ (mag_wd a).dig (by decide) k
        obtain ⟨d, c, hd, hcc, hd1, hc1, he⟩ := up_ex x s cv hs64 bx ⟨hst.c0, hst.c1⟩
        have HN : Hid (Up2St (mag a) j (k + 1) (2 ^ s) c (L ++ [d])) := hst.step hd1 hc1 (by rw [hx]; exact he)
        have HM : Hid ((L ++ [d]).map (Value.int .u64) = L.map (Value.int .u64) ++ [.int .u64 d]) := by show _ = _; rw [List.map_append]; rfl
        have HC : Hid (b < w.heap.size ∧ w.cell? ⟨b, off + k, none⟩ = some (.int .u64 x)) := ⟨hb, hx ▸ hc k hlt⟩
        clear hst hc hx hd1 hc1 he
        by_cases hs0 : s = 0
        · have hs1 : ¬ (0 : Int) < (s : Int) := by omega
          have hc0 : c = 0 := by rw [← hcc, hs0]; exact Int.ediv_eq_zero_of_lt bx.1 bx.2
          subst hc0
          clear hcc bx hs0
          go_wp2_with (at_builtin; refine wpList_append_lies _ rfl _ _ 26 rfl w.heap.size 73 i0 (.int .u64 0) 1 8 Tryz.underlying26 hi hz0 hz1 hz2 rfl (by decide) _ (j + k) _ rfl (hown.alloc _) ⟨wr.heap.size, 0, none⟩ 1 1 [.int .u64 d] rfl rfl (World.news_of_block (cs := #[.int .u64 d]) (t := 73) (fr := (0, 0)) (heap_alloc_new wr _)) (by simp [Value.oneCell']) (by decide) h63.out hby.out (by simpa using hbz.out) (wr.heap.size + 1) (by simp) ?_; intro g cp w3 hown1 hgrow hat hltg; have hB1 : Below w.heap.size w w3 := (hbel.alloc hbel.size _).grown hgrow (by simpa using hbz.out) (own_from hown))
          go_roundw
          case rel => exact ⟨k + 1, 0, L ++ [d], by omega, by go_num, rfl, HN.out, by rw [HM.out]; exact hown1, hB1⟩
          case measure => simp [intOf]; omega
        · have hs1 : (0 : Int) < (s : Int) := by omega
          clear bx
          go_wp2_with (at_builtin; refine wpList_append_lies _ rfl _ _ 26 rfl w.heap.size 73 i0 (.int .u64 0) 1 8 Tryz.underlying26 hi hz0 hz1 hz2 rfl (by decide) _ (j + k) _ rfl (hown.alloc _) ⟨wr.heap.size, 0, none⟩ 1 1 [.int .u64 d] rfl rfl (World.news_of_block (cs := #[.int .u64 d]) (t := 73) (fr := (0, 0)) (heap_alloc_new wr _)) (by simp [Value.oneCell']) (by decide) h63.out hby.out (by simpa using hbz.out) (wr.heap.size + 1) (by simp) ?_; intro g cp w3 hown1 hgrow hat hltg; have hB1 : Below w.heap.size w w3 := (hbel.alloc hbel.size _).grown hgrow (by simpa using hbz.out) (own_from hown); have hcx3 : w3.cell? ⟨b, off + k, none⟩ = some (.int .u64 x) := (hB1.cell (p := ⟨b, off + k, none⟩) HC.out.1).trans HC.out.2; have hbs3 : b < w3.heap.size := Nat.lt_of_lt_of_le HC.out.1 hB1.size)
          go_roundw
          case rel => exact ⟨k + 1, c, L ++ [d], by omega, by go_num, by go_num, HN.out, by rw [HM.out]; exact hown1, hB1⟩
          case measure => simp [intOf]; omega
      · obtain rfl : k = la := by omega
        have HE : Hid ((val 18446744073709551616 (L ++ [cv]) = ((a * 2 ^ n : Nat) : Int) ∧ Wd 18446744073709551616 (L ++ [cv])) ∧ (L ++ [cv]).length = j + k + 1) := ⟨Up2St.ending HX.out.2 (by rw [HJ.out.1, HJ.out.2]; exact hst), by simp [hst.len]⟩
        have HM : Hid ((L ++ [cv]).map (Value.int .u64) = L.map (Value.int .u64) ++ [.int .u64 cv]) := by show _ = _; rw [List.map_append]; rfl
        clear hst
        go_wp2_with (first
          | (at_builtin; refine wpList_append_lies _ rfl _ _ 26 rfl w.heap.size 73 i0 (.int .u64 0) 1 8 Tryz.underlying26 hi hz0 hz1 hz2 rfl (by decide) _ (j + k) _ rfl (hown.alloc _) ⟨wr.heap.size, 0, none⟩ 1 1 [.int .u64 cv] rfl rfl (World.news_of_block (cs := #[.int .u64 cv]) (t := 73) (fr := (0, 0)) (heap_alloc_new wr _)) (by simp [Value.oneCell']) (by decide) h63.out hby.out (by simpa using hbz.out) (wr.heap.size + 1) (by simp) ?_; intro g cp w3 hown1 hgrow hat hltg; have hB1 : Below w.heap.size w w3 := (hbel.alloc hbel.size _).grown hgrow (by simpa using hbz.out) (own_from hown); have hown2 : w3.ownsRow w.heap.size 73 1 (.slice (some ⟨g, 0, none⟩) (j + k + 1) cp) (j + k + 1) ((L ++ [cv]).map (Value.int .u64)) := (by rw [HM.out]; exact hown1))
          | (go_at_call 85; refine (ntrim_any (some ⟨g, 0, none⟩) (j + k + 1) cp (L ++ [cv]) _ (Own.ofRow HE.out.2 hown2).row (cap_of_owns hown2)).mono ?_; rintro e w4 ⟨hT, hw4⟩; replace hw4 := hw4.symm; subst hw4; have HT : Hid (Trimmed w3 .u64 (some ⟨g, 0, none⟩) (j + k + 1) cp (L ++ [cv]) e) := hT; obtain ⟨ao', n', cap', hn', rfl, hrest⟩ := hT))
        go_ret
        exact Trimmed.natOwn HT.out (Own.ofRow HE.out.2 hown2) HE.out.1.2 HE.out.1.1 hB1
end Go.Proofs.YtdanaebhjkbfmaaGreat
/- Walks: the page's Down2. -/
namespace Go.Proofs.YtdanaebhjkbfmaaGreat
open Go.RowKit
set_option linter.unusedVariables false
set_option linter.unusedSimpArgs false
/-- the digits of zs from j on, k of them, over P -/
structure Down2St (zs : List Int) (j k : Nat) (P : Int) (L : List Int) : Prop where
  len : L.length = k
  wd : Wd 18446744073709551616 L
  eq : val 18446744073709551616 L * P + dig zs j % P = V 18446744073709551616 zs j k + dig zs (j + k) % P * 18446744073709551616 ^ k
theorem Down2St.step {zs : List Int} {j k : Nat} {P : Int} {L : List Int} (h : Down2St zs j k P L) {d : Int} (hd : 0 ≤ d ∧ d < 18446744073709551616) (he : d * P + dig zs (j + k) % P = dig zs (j + k) + dig zs (j + k + 1) % P * 18446744073709551616) : Down2St zs j (k + 1) P (L ++ [d]) := by
  refine ⟨by simp [h.len], h.wd.append (Wd.one hd), ?_⟩
  have h1 := h.eq
  rw [val_snoc, h.len, V_succ, Int.pow_succ, show j + (k + 1) = j + k + 1 by omega]
  have e2 : 18446744073709551616 ^ k * (d * P + dig zs (j + k) % P) = 18446744073709551616 ^ k * (dig zs (j + k) + dig zs (j + k + 1) % P * 18446744073709551616) := by rw [he]
  grind
end Go.Proofs.YtdanaebhjkbfmaaGreat
/- Walks: the page's Times, Zero. -/
namespace Go.Proofs.YtdanaebhjkbfmaaGreat
open Go.RowKit
set_option linter.unusedVariables false
set_option linter.unusedSimpArgs false
set_option maxRecDepth 100000 in
set_option maxHeartbeats 1000000 in
theorem rtimes_any (na nb : Bool) (ao bo : Option Addr) (la ca lb cb : Nat) (a b : Int) (w : World) (hx : IntAt w na ao la ca a) (hy : IntAt w nb bo lb cb b) (hl : la ≤ 1073741824) (hl' : lb ≤ 1073741824) :
    Calls Tryz.prog 60 #[.agg #[.bool na, .slice ao la ca], .agg #[.bool nb, .slice bo lb cb]] w fun e w' => NewInt w w' e (a * b) := by
  obtain ⟨W, hT⟩ := Two3.mk' w na nb ao bo la ca lb cb
  have hsz := hT.size
  have HV : Hid (a * b = sgn (na != nb) (a.natAbs * b.natAbs)) := sgn_mul hx.sg hy.sg
  have hRx := hx.later hT.below
  have hRy := hy.later hT.below
  clear hx hy
  have KS : Hid (∀ w' : World, Below (w.heap.size + 2) W w' → (Below (w.heap.size + 2) W w' ∧ w'.cell? ⟨w.heap.size, 0, none⟩ = some (.bool na) ∧ w'.cell? ⟨w.heap.size, 1, none⟩ = some (.slice ao la ca) ∧ w'.cell? ⟨w.heap.size + 1, 0, none⟩ = some (.bool nb) ∧ w'.cell? ⟨w.heap.size + 1, 1, none⟩ = some (.slice bo lb cb))) := fun w' h => ⟨h, (h.cell (p := ⟨w.heap.size, 0, none⟩) (by show w.heap.size < _; omega)).trans hT.a.1, (h.cell (p := ⟨w.heap.size, 1, none⟩) (by show w.heap.size < _; omega)).trans hT.a.2, (h.cell (p := ⟨w.heap.size + 1, 0, none⟩) (by show w.heap.size + 1 < _; omega)).trans hT.b.1, (h.cell (p := ⟨w.heap.size + 1, 1, none⟩) (by show w.heap.size + 1 < _; omega)).trans hT.b.2⟩
  have K1 : Hid (∀ w1 w2 : World, (Below (w.heap.size + 2) W w1 ∧ w1.cell? ⟨w.heap.size, 0, none⟩ = some (.bool na) ∧ w1.cell? ⟨w.heap.size, 1, none⟩ = some (.slice ao la ca) ∧ w1.cell? ⟨w.heap.size + 1, 0, none⟩ = some (.bool nb) ∧ w1.cell? ⟨w.heap.size + 1, 1, none⟩ = some (.slice bo lb cb)) → Below w1.heap.size w1 w2 → (Below (w.heap.size + 2) W w2 ∧ w2.cell? ⟨w.heap.size, 0, none⟩ = some (.bool na) ∧ w2.cell? ⟨w.heap.size, 1, none⟩ = some (.slice ao la ca) ∧ w2.cell? ⟨w.heap.size + 1, 0, none⟩ = some (.bool nb) ∧ w2.cell? ⟨w.heap.size + 1, 1, none⟩ = some (.slice bo lb cb))) := fun w1 w2 h hb => KS.out _ (h.1.trans (hb.mono (by have := h.1.size; omega)))
  have K2 : Hid (∀ w1 w2 : World, (Below (w.heap.size + 2) W w1 ∧ w1.cell? ⟨w.heap.size, 0, none⟩ = some (.bool na) ∧ w1.cell? ⟨w.heap.size, 1, none⟩ = some (.slice ao la ca) ∧ w1.cell? ⟨w.heap.size + 1, 0, none⟩ = some (.bool nb) ∧ w1.cell? ⟨w.heap.size + 1, 1, none⟩ = some (.slice bo lb cb)) → Below (w.heap.size + 2) w1 w2 → (Below (w.heap.size + 2) W w2 ∧ w2.cell? ⟨w.heap.size, 0, none⟩ = some (.bool na) ∧ w2.cell? ⟨w.heap.size, 1, none⟩ = some (.slice ao la ca) ∧ w2.cell? ⟨w.heap.size + 1, 0, none⟩ = some (.bool nb) ∧ w2.cell? ⟨w.heap.size + 1, 1, none⟩ = some (.slice bo lb cb))) := fun w1 w2 h hb => KS.out _ (h.1.trans hb)
  go_enter Tryz.func60, Tryz.ntmps60
  go_wp2
  rw [← hT.eq]
  go_region_held3 (fun w' => Below (w.heap.size + 2) W w' ∧ w'.cell? ⟨w.heap.size, 0, none⟩ = some (.bool na) ∧ w'.cell? ⟨w.heap.size, 1, none⟩ = some (.slice ao la ca) ∧ w'.cell? ⟨w.heap.size + 1, 0, none⟩ = some (.bool nb) ∧ w'.cell? ⟨w.heap.size + 1, 1, none⟩ = some (.slice bo lb cb))
    (first
      | exact KS.out _ (Below.refl _ _).drew
      | exact K1.out _ _ (by assumption) (by assumption)
      | exact K2.out _ _ (by assumption) (below_store (Below.refl _ _) (by omega) _ _))
    (first
      | (go_at_call 84; refine (ntimes_any ao bo la ca lb cb _ _ _ (hRx.row.later (Below.refl _ _).drew) (hRy.row.later (Below.refl _ _).drew) (by omega) (by omega)).mono ?_; rintro e w2 ⟨ao2, l2, c2, rfl, ho2, hb2⟩; have hlen2 : l2 ≤ 4294967296 := (by rw [ho2.row.hlen]; have q := mag_len_mul a.natAbs b.natAbs; rw [← hRx.row.hlen, ← hRy.row.hlen] at q; omega))
      | (go_at_call 58; refine (made_any (na != nb) ao2 l2 c2 _ (by omega)).mono ?_; rintro e w3 ⟨rfl, hb3⟩; obtain ⟨g5, g3, g4⟩ := hT.r.later (bnext (Below.refl _ _).drew (bnext hb2 hb3)) (by omega)))
  go_wp2
  have hN := NewInt.ret (w := w) ((ho2.later hb3).store (r := w.heap.size + 1 + 1) (by show _ < W.heap.size; omega) (.bool ((na != nb) && decide (0 < l2))) (.slice ao2 l2 c2)) (by show _ ≤ W.heap.size; omega) HV.out (below_store (bnext hT.below (bnext (Below.refl _ _).drew (bnext hb2 hb3))) (by omega) _ _)
  exact bodyPost_ret (v := .agg #[.bool ((na != nb) && decide (0 < l2)), .slice ao2 l2 c2]) (by simp [results, Tryz.results60, go_sem, g3, g4]) rfl hN
set_option maxRecDepth 100000 in
theorem rzero_any (neg : Bool) (ao : Option Addr) (len cap : Nat) (w : World) (c : Bool) (hc : ((len : Int) == 0) = c) :
    Calls Tryz.prog 27 #[.agg #[.bool neg, .slice ao len cap]] w fun e w' => e = .returned (.bool c) ∧ Below w.heap.size w w' := by
  go_enter Tryz.func27, Tryz.ntmps27
  go_wp2
  go_ret
  exact ⟨by rw [← hc]; rfl, (Below.refl _ _).alloc (Nat.le_refl _) _⟩
end Go.Proofs.YtdanaebhjkbfmaaGreat
