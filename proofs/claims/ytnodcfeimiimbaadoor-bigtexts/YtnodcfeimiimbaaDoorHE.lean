/-
  HA, HB, HC, HD, HE.
-/
import Derived.Test.YtnodcfeimiimbaaDoorWR
import Derived.Test.YtnodcfeimiimbaaDoorEH
import Derived.Test.YtnodcfeimiimbaaDoorEL
import Derived.Test.YtnodcfeimiimbaaDoorLD0

/- Walks: the page's NTimes. -/
namespace Go.Proofs.YtnodcfeimiimbaaDoor
open Go.RowKit
set_option linter.unusedVariables false
set_option linter.unusedSimpArgs false

theorem below_drawn {B : Nat} {w w' : World} (h : Below B w w') (n : Nat) : Below B w (w'.drewN n) := ⟨h.os, h.tape, h.output, h.size, h.block⟩
theorem prod_start {q : Int} (hq : 0 < q) (x y : List Int) (lx ly : Nat) : ProdSt q (List.replicate (lx + ly) 0) x y 0 lx ly 0 (List.replicate (lx + ly) 0) := by
  refine ⟨rfl, fun _ _ => rfl, wd_zeros hq _, fun j _ _ => dig_zeros _ _, ?_⟩
  rw [V_zeros (fun j hj => dig_zeros _ _)]
  simp [val]

set_option maxRecDepth 100000 in
set_option maxHeartbeats 3000000 in
theorem ntimes_any (ao bo : Option Addr) (la ca lb cb : Nat) (a n2 : Nat) (w : World) (hx : RowAt w .u64 ao la ca (mag a)) (hy : RowAt w .u64 bo lb cb (mag n2)) (hl : la ≤ 1073741824) (hl' : lb ≤ 1073741824) :
    Calls Tryd.prog 37 #[.slice ao la ca, .slice bo lb cb] w fun e w' => NewNat w w' e (a * n2) := by
  obtain ⟨i0, hi, hz0, hz1, hz2⟩ := info_parts info32
  have HI : Hid (RowAt w .u64 ao la ca (mag a) ∧ RowAt w .u64 bo lb cb (mag n2)) := ⟨hx, hy⟩
  clear hx hy
  go_enter Tryd.func37, Tryd.ntmps37
  go_wp2_with (first
    | (go_at_call_of 33 ao; refine (halves_any ao la ca (mag a) _ HI.out.1 (mag_wd a) (by omega) a (mag_val a)).mono ?_; rintro e w0 ⟨⟨xo, lx, cx, rfl, hX0⟩, hb0⟩; have HX0 : Hid (RowAt w0 .u32 xo lx cx (half a)) := hX0; clear hX0)
    | (go_at_call 33; refine (halves_any bo lb cb (mag n2) _ (HI.out.2.later hb0) (mag_wd n2) (by omega) n2 (mag_val n2)).mono ?_; rintro e w1 ⟨⟨yo, ly, cy, rfl, hY⟩, hb1⟩; have HXY : Hid (RowAt w1 .u32 xo lx cx (half a) ∧ RowAt w1 .u32 yo ly cy (half n2) ∧ Below w.heap.size w w1) := ⟨HX0.out.later hb1, hY, bnext hb0 hb1⟩; have hlx : lx ≤ 2147483648 := (by have := half_len_le HI.out.1.hlen; rw [← HXY.out.1.hlen] at this; omega); have hly : ly ≤ 2147483648 := (by have := half_len_le HI.out.2.hlen; rw [← HXY.out.2.1.hlen] at this; omega); have b1 : Hid (i0.bytes * (ly + lx) ≤ 281474976710656) := (by show _ ≤ _; rw [hz2]; omega); have b2 : Hid (ly + lx ≤ maxLen) := (by show _ ≤ _; unfold maxLen; omega); clear HX0 hY hb0 hb1)
    | (at_make; refine wpList_make_full _ rfl (.tmp 19) (.tmp 19) 63 rfl w1.heap.size 65 i0 (.int .u32 0) 1 Tryd.underlying63 hi hz0 hz1 .i64 .i64 _ _ (ly + lx) rfl rfl (by omega) (by omega) b1.out b2.out (Nat.le_refl _) ?_; intro w2 hown2 hgrow2; have HM : Hid (Blk w2 w1.heap.size .u32 65 (List.replicate (ly + lx) 0) ∧ Below w1.heap.size w1 w2) := ⟨made_blk hown2, grown_below hgrow2⟩; clear hown2 hgrow2))
  go_loopw [8] (fun i wr => ∃ (k : Nat) (Lk : List Int), k ≤ lx ∧ i = .int .i64 k ∧ ProdSt 4294967296 (List.replicate (ly + lx) 0) (half n2) (half a) 0 ly lx k Lk ∧ Blk wr w1.heap.size .u32 65 Lk ∧ Below w1.heap.size w1 wr) (fun i _ => lx - (intOf i).toNat)
  case atStart => exact ⟨0, _, Nat.zero_le _, rfl, prod_start (by decide) _ _ _ _, HM.out.1, HM.out.2⟩
  case round =>
    obtain ⟨k, Lk, hk, rfl, hst, hbl, hbel⟩ := hrel
    have HS : Hid (ProdSt 4294967296 (List.replicate (ly + lx) 0) (half n2) (half a) 0 ly lx k Lk ∧ Blk wr w1.heap.size .u32 65 Lk ∧ Below w1.heap.size w1 wr) := ⟨hst, hbl, hbel⟩
    have hlen : Lk.length = ly + lx := by rw [hst.len]; simp
    clear hst hbl hbel
    by_cases hlt : k < lx
    · obtain ⟨b, off, rfl, hb, hc⟩ := HXY.out.1.get (by omega)
      obtain ⟨u, hu⟩ : ∃ u, dig (half a) k = u := ⟨_, rfl⟩
      have HU : Hid (dig (half a) k = u ∧ w1.cell? ⟨b, off + k, none⟩ = some (.int .u32 u)) := ⟨hu, hu ▸ hc k hlt⟩
      have hub : 0 ≤ u ∧ u < 4294967296 := hu ▸ (half_wd a).dig (by decide) k
      obtain ⟨hu1, hu2⟩ := hub
      clear hc hu
      go_wp2
      go_loopw [9, 10] (fun c i w3 => ∃ (j : Nat) (cv : Int) (Lj : List Int), j ≤ ly ∧ i = .int .i64 j ∧ c = .int .u64 cv ∧ MulSt 4294967296 Lk (half n2) u (0 + k) j cv Lj ∧ Blk w3 w1.heap.size .u32 65 Lj ∧ Below w1.heap.size w1 w3) (fun _ i _ => ly - (intOf i).toNat)
      case atStart => exact ⟨0, 0, Lk, Nat.zero_le _, rfl, rfl, MulSt.start _ HS.out.1.wd (by decide), HS.out.2.1, HS.out.2.2⟩
      case round =>
        obtain ⟨j, cv, Lj, hj, rfl, rfl, hst, hbl, hbel⟩ := hrel
        have HT : Hid (MulSt 4294967296 Lk (half n2) u (0 + k) j cv Lj ∧ Blk wr w1.heap.size .u32 65 Lj ∧ Below w1.heap.size w1 wr) := ⟨hst, hbl, hbel⟩
        have hlj : Lj.length = ly + lx := by rw [hst.len]; exact hlen
        have hc0 := hst.c0
        have hc1 := hst.c1
        have hgs : w1.heap.size < wr.heap.size := hbl.lt
        have hbs : b < wr.heap.size := by have := hbel.size; omega
        have hcx : wr.cell? ⟨b, off + k, none⟩ = some (.int .u32 u) := (hbel.cell (p := ⟨b, off + k, none⟩) hb).trans HU.out.2
        by_cases hjl : j < ly
        · obtain ⟨b', off', rfl, hb', hc'⟩ := HXY.out.2.1.get (by omega)
          obtain ⟨v, hv⟩ : ∃ v, dig (half n2) j = v := ⟨_, rfl⟩
          obtain ⟨z, hz⟩ : ∃ z, dig Lj (k + j) = z := ⟨_, rfl⟩
          have hcy : wr.cell? ⟨b', off' + j, none⟩ = some (.int .u32 v) := hv ▸ (hbel.cell (p := ⟨b', off' + j, none⟩) hb').trans (hc' j hjl)
          have hbs' : b' < wr.heap.size := by have := hbel.size; omega
          have hcz : wr.cell? ⟨w1.heap.size, k + j, none⟩ = some (.int .u32 z) := hz ▸ hbl.cell (by omega)
          have hfz := hbl.frozen (k + j)
          obtain ⟨hv1, hv2⟩ : 0 ≤ v ∧ v < 4294967296 := hv ▸ (half_wd n2).dig (by decide) j
          obtain ⟨hz1', hz2'⟩ : 0 ≤ z ∧ z < 4294967296 := hz ▸ hst.wd.dig (by decide) (k + j)
          have hzL : dig Lk (0 + k + j) = z := by rw [← hst.out (0 + k + j) (by omega), ← hz]; congr 1; omega
          have HV : Hid (dig (half n2) j = v ∧ dig Lk (0 + k + j) = z) := ⟨hv, hzL⟩
          obtain ⟨pv, hpv⟩ : ∃ p, u * v = p := ⟨_, rfl⟩
          have hp0 : 0 ≤ pv := hpv ▸ Int.mul_nonneg hu1 hv1
          have hp1 : pv ≤ 18446744065119617025 := by
            have : u * v ≤ 4294967295 * 4294967295 := Int.mul_le_mul (by omega) (by omega) hv1 (by decide)
            omega
          have HP : Hid (u * v = pv) := hpv
          have hkj : k + j < ly + lx := by omega
          clear hst hbl hc' hv hz hzL
          go_wp2
          go_quiet (fail)
          go_wp2
          have HN : Hid (MulSt 4294967296 Lk (half n2) u (0 + k) (j + 1) ((cv + z + pv) / 4294967296) (Lj.set (k + j) ((cv + z + pv) % 4294967296))) := by
            show MulSt _ _ _ _ _ _ _ _
            have h1 : (cv + z + pv) % 4294967296 + (cv + z + pv) / 4294967296 * 4294967296 = cv + z + pv := by omega
            have h2 : v * u = pv := by rw [Int.mul_comm]; exact HP.out
            have h := HT.out.1.step (by omega) (d := (cv + z + pv) % 4294967296) (c' := (cv + z + pv) / 4294967296) (by omega) (by omega) (by rw [HV.out.1, HV.out.2, h2]; omega)
            rw [show 0 + k + j = k + j by omega] at h
            exact h
          go_roundw
          case rel => exact ⟨j + 1, _, _, by omega, by go_num, rfl, HN.out, (HT.out.2.1.drewN _).set _ _, (below_drawn HT.out.2.2 _).setCell (p := ⟨w1.heap.size, k + j, none⟩) (Nat.le_refl _) _⟩
          case measure => simp [intOf]; omega
        · obtain rfl : j = ly := by omega
          have hcz : wr.cell? ⟨w1.heap.size, k + j, none⟩ = some (.int .u32 (dig Lj (k + j))) := hbl.cell (by omega)
          have hfz := hbl.frozen (k + j)
          have ec : cv % 4294967296 = cv := by omega
          have hkj : k + j < j + lx := by omega
          clear hst hbl
          go_wp2
          go_roundw
          case rel => exact ⟨k + 1, Lj.set (0 + (k + j)) cv, by omega, by go_num, HS.out.1.step (by simp) hlt (by rw [← HXY.out.2.1.hlen]; exact Nat.le_refl _) (HU.out.1 ▸ HT.out.1), by rw [Nat.zero_add]; exact HT.out.2.1.set _ _, HT.out.2.2.setCell (p := ⟨w1.heap.size, k + j, none⟩) (Nat.le_refl _) _⟩
          case measure => simp [intOf]; omega
    · obtain rfl : k = lx := by omega
      have HV : Hid (Wd 4294967296 Lk ∧ val 4294967296 Lk = ((a * n2 : Nat) : Int) ∧ ly + k = Lk.length) := by
        have e := HS.out.1.eq
        rw [V_all _ (by omega), List.take_of_length_le (by rw [← HXY.out.1.hlen]; exact Nat.le_refl _), half_val, half_val, ← Int.natCast_mul, Nat.mul_comm] at e
        exact ⟨HS.out.1.wd, e, hlen.symm⟩
      go_wp2_with (first
        | (go_at_call 54; refine (cut_any (some ⟨w1.heap.size, 0, none⟩) (ly + k) (ly + k) Lk _ (Own.whole (B := 0) HS.out.2.1 (Nat.zero_le _) HV.out.2.2).row (by omega)).mono ?_; rintro e w4 ⟨hT, hw4⟩; obtain ⟨ao', n', cap', hn', rfl, hrow', hcan', hval', hrest⟩ := hT; subst hw4; have hn2 : n' ≤ 8589934592 := by omega)
        | (go_at_call 55; refine (whole_any ao' n' cap' (Lk.take n') _ hrow' (HV.out.1.take n') hn2 (a * n2) (by rw [hval', HV.out.2.1])).mono ?_; rintro e w5 ⟨ao5, l5, c5, rfl, ho5, hb5⟩))
      go_ret
      exact ⟨_, _, _, rfl, ho5.mono (by have := HS.out.2.2.size; have := HXY.out.2.2.size; omega), bnext (bnext HXY.out.2.2 HS.out.2.2) hb5⟩
end Go.Proofs.YtnodcfeimiimbaaDoor

/- Walks: the page's short (a row of halves divided by one). -/
namespace Go.Proofs.YtnodcfeimiimbaaDoor
open Go.RowKit
set_option linter.unusedVariables false
set_option linter.unusedSimpArgs false

theorem or_shift2 (a b : Int) (ha : 0 ≤ a ∧ a < 4294967296) (hb : 0 ≤ b ∧ b < 4294967296) : bits .or .u64 (b * 4294967296) a = b * 4294967296 + a := by
  have h := or_shift a b ha hb
  have e : bits .or .u64 (b * 4294967296) a = bits .or .u64 a (b * 4294967296) := by
    unfold bits
    simp [Nat.or_comm]
  rw [e, h, Int.mul_comm 4294967296 b, Int.add_comm]
theorem V_low (q : Int) (L : List Int) (off n : Nat) : V q L off (n + 1) = dig L off + q * V q L (off + 1) n := by
  rw [Nat.add_comm n 1, V_split, V_succ, V_zero, Int.pow_succ]; simp
/-- the digits of xs from k on were divided by d; r is left -/
structure ShortSt (q : Int) (xs : List Int) (d : Int) (k n : Nat) (r : Int) (L : List Int) : Prop where
  len : L.length = xs.length
  wd : Wd q L
  r0 : 0 ≤ r
  r1 : r < d
  eq : V q L k n * d + r = V q xs k n
theorem ShortSt.step {q : Int} {xs : List Int} {d : Int} {k n : Nat} {r : Int} {L : List Int} (h : ShortSt q xs d (k + 1) n r L) (hk : k < xs.length) {u r' : Int} (hu : 0 ≤ u ∧ u < q) (hr : 0 ≤ r' ∧ r' < d) (he : u * d + r' = r * q + dig xs k) : ShortSt q xs d k (n + 1) r' (L.set k u) := by
  have hl : k < L.length := by rw [h.len]; exact hk
  refine ⟨by simp [h.len], h.wd.set _ hu, hr.1, hr.2, ?_⟩
  have e1 : V q (L.set k u) (k + 1) n = V q L (k + 1) n := V_congr fun j hj => by rw [dig_set _ hl, if_neg (by omega)]
  rw [V_low, V_low, e1, dig_set _ hl, if_pos rfl]
  have h1 := h.eq
  grind

set_option maxRecDepth 100000 in
set_option maxHeartbeats 3000000 in
theorem short_new (xo : Option Addr) (lx cx : Nat) (xs : List Int) (d : Int) (N : Nat) (w : World) (hx : RowAt w .u32 xo lx cx xs) (hW : Wd 4294967296 xs) (hN : val 4294967296 xs = (N : Int)) (hl : lx ≤ 4294967296) (hd : 0 < d) (hd' : d < 4294967296) :
    Calls Tryd.prog 34 #[.slice xo lx cx, .int .u32 d] w fun e w' => (∃ ao' l' c', e = .returned (.tuple #[.slice ao' l' c', .int .u32 (N % d)]) ∧ Own w.heap.size w' .u32 65 ao' l' c' (half (N / d.toNat))) ∧ Below w.heap.size w w' := by
  obtain ⟨i0, hi, hz0, hz1, hz2⟩ := info_parts info32
  have HI : Hid (RowAt w .u32 xo lx cx xs ∧ Wd 4294967296 xs ∧ val 4294967296 xs = (N : Int) ∧ lx = xs.length) := ⟨hx, hW, hN, hx.hlen⟩
  have b1 : Hid (i0.bytes * lx ≤ 281474976710656) := by show _ ≤ _; rw [hz2]; omega
  have b2 : Hid (lx ≤ maxLen) := by show _ ≤ _; unfold maxLen; omega
  have hd0 : (d == 0) = false := by simp; omega
  have hdn : ¬ d = 0 := by omega
  clear hx hW hN
  go_enter Tryd.func34, Tryd.ntmps34
  go_wp2_with (at_make; refine wpList_make_full _ rfl (.tmp 10) (.tmp 10) 63 rfl w.heap.size 65 i0 (.int .u32 0) 1 Tryd.underlying63 hi hz0 hz1 .i64 .i64 _ _ lx rfl rfl rfl rfl b1.out b2.out (Nat.le_refl _) ?_; intro w2 hown2 hgrow2; have HM : Hid (Blk w2 w.heap.size .u32 65 (List.replicate lx 0) ∧ Below w.heap.size w w2) := ⟨made_blk hown2, grown_below hgrow2⟩; clear hown2 hgrow2)
  go_loopw [7, 8] (fun r i wr => ∃ (k : Nat) (rv : Int) (L : List Int), k ≤ lx ∧ i = .int .i64 ((k : Int) - 1) ∧ r = .int .u64 rv ∧ ShortSt 4294967296 xs d k (lx - k) rv L ∧ Blk wr w.heap.size .u32 65 L ∧ Below w.heap.size w wr) (fun _ i _ => (intOf i + 1).toNat)
  case atStart => exact ⟨lx, 0, List.replicate lx 0, Nat.le_refl _, rfl, rfl, ⟨by simp [HI.out.2.2.2], wd_zeros (by decide) _, by decide, hd, by rw [Nat.sub_self, V_zero, V_zero]; simp⟩, HM.out.1, HM.out.2⟩
  case round =>
    obtain ⟨k, rv, L, hk, rfl, rfl, hst, hbl, hbel⟩ := hrel
    have HS : Hid (ShortSt 4294967296 xs d k (lx - k) rv L ∧ Blk wr w.heap.size .u32 65 L ∧ Below w.heap.size w wr) := ⟨hst, hbl, hbel⟩
    have hr0 := hst.r0
    have hr1 := hst.r1
    rcases k with _ | k
    · have HV : Hid (val 4294967296 L = ((N / d.toNat : Nat) : Int) ∧ rv = N % d ∧ lx = L.length) := by
        have e := hst.eq
        have el : lx = L.length := by rw [hst.len]; exact HI.out.2.2.2
        rw [Nat.sub_zero, V_all _ el, V_all _ HI.out.2.2.2, HI.out.2.2.1] at e
        have h1 : (N : Int) / d = val 4294967296 L := by
          rw [← e, Int.add_comm, Int.add_mul_ediv_right _ _ (by omega), Int.ediv_eq_zero_of_lt hr0 hr1, Int.zero_add]
        have h2 : (N : Int) % d = rv := by
          rw [← e, Int.add_comm, Int.add_mul_emod_self_right, Int.emod_eq_of_lt hr0 hr1]
        have h3 : ((N / d.toNat : Nat) : Int) = (N : Int) / d := by rw [Int.natCast_ediv]; congr 1; omega
        exact ⟨by rw [h3, h1], h2.symm, el⟩
      have er : rv % 4294967296 = rv := by omega
      clear hst hbl hbel
      go_wp2_with (go_at_call 54; refine (cut_any (some ⟨w.heap.size, 0, none⟩) lx lx L _ (Own.whole (B := 0) HS.out.2.1 (Nat.zero_le _) HV.out.2.2).row (by omega)).mono ?_; rintro e w4 ⟨hT, hw4⟩; obtain ⟨ao', n', cap', hn', rfl, hrow', hcan', hval', hrest⟩ := hT; subst hw4)
      have hh : half (N / d.toNat) = L.take n' := half_of (HS.out.1.wd.take n') hcan' (by rw [hval', HV.out.1])
      exact bodyPost_ret (v := .tuple #[.slice ao' n' cap', .int .u32 rv]) (by simp [results, Tryd.results34, go_sem]) rfl ⟨⟨_, _, _, by rw [HV.out.2.1], by
        rw [hh]
        rcases hrest with ⟨rfl, rfl⟩ | ⟨rfl, rfl⟩
        · exact (Own.whole HS.out.2.1 (Nat.le_refl _) HV.out.2.2).take hn'
        · have hc0 := hrow'.hnil rfl
          subst hc0
          rw [List.take_zero]; exact Own.none_⟩, HS.out.2.2⟩
    · have hc1 : ((k + 1 : Nat) : Int) - 1 = (k : Int) := by omega
      rw [hc1]
      obtain ⟨b, off, rfl, hb, hc⟩ := HI.out.1.get (by omega)
      obtain ⟨x, hx⟩ : ∃ x, dig xs k = x := ⟨_, rfl⟩
      have hcx : wr.cell? ⟨b, off + k, none⟩ = some (.int .u32 x) := hx ▸ (hbel.cell (p := ⟨b, off + k, none⟩) hb).trans (hc k (by omega))
      have hbs : b < wr.heap.size := by have := hbel.size; omega
      have hgs : w.heap.size < wr.heap.size := hbl.lt
      have hcz : wr.cell? ⟨w.heap.size, k, none⟩ = some (.int .u32 (dig L k)) := hbl.cell (by rw [hst.len, ← HI.out.2.2.2]; omega)
      have hfz := hbl.frozen k
      obtain ⟨hx1, hx2⟩ : 0 ≤ x ∧ x < 4294967296 := hx ▸ HI.out.2.1.dig (by decide) k
      have hor := or_shift2 x rv ⟨hx1, hx2⟩ ⟨hr0, by omega⟩
      have HX : Hid (dig xs k = x) := hx
      clear hst hbl hc hx
      have hT0 : 0 ≤ rv * 4294967296 + x := by omega
      have hq1 : (rv * 4294967296 + x) / d < 4294967296 := Int.ediv_lt_of_lt_mul hd (by
        have : (rv + 1) * 4294967296 ≤ d * 4294967296 := Int.mul_le_mul_of_nonneg_right (by omega) (by decide)
        rw [Int.mul_comm 4294967296 d]
        omega)
      have hq0 : 0 ≤ (rv * 4294967296 + x) / d := Int.ediv_nonneg hT0 (by omega)
      have hm0 := Int.emod_nonneg (rv * 4294967296 + x) hdn
      have hm1 := Int.emod_lt_of_pos (rv * 4294967296 + x) hd
      have HN : Hid (ShortSt 4294967296 xs d k (lx - k) ((rv * 4294967296 + x) % d) (L.set k ((rv * 4294967296 + x) / d))) := by
        show ShortSt _ _ _ _ _ _ _
        rw [show lx - k = lx - (k + 1) + 1 by omega]
        refine HS.out.1.step (by rw [← HI.out.2.2.2]; omega) ⟨hq0, hq1⟩ ⟨hm0, hm1⟩ ?_
        rw [HX.out]
        have := Int.mul_ediv_add_emod (rv * 4294967296 + x) d
        rw [Int.mul_comm] at this
        exact this
      go_wp2
      go_roundw
      case rel => exact ⟨k, _, _, by omega, by go_num, rfl, HN.out, HS.out.2.1.set _ _, HS.out.2.2.setCell (p := ⟨w.heap.size, k, none⟩) (Nat.le_refl _) _⟩
      case measure => simp [intOf]
theorem short_any (xo : Option Addr) (lx cx : Nat) (xs : List Int) (d : Int) (N : Nat) (w : World) (hx : RowAt w .u32 xo lx cx xs) (hW : Wd 4294967296 xs) (hN : val 4294967296 xs = (N : Int)) (hl : lx ≤ 4294967296) (hd : 0 < d) (hd' : d < 4294967296) :
    Calls Tryd.prog 34 #[.slice xo lx cx, .int .u32 d] w fun e w' => (∃ ao' l' c', e = .returned (.tuple #[.slice ao' l' c', .int .u32 (N % d)]) ∧ RowAt w' .u32 ao' l' c' (half (N / d.toNat))) ∧ Below w.heap.size w w' :=
  (short_new xo lx cx xs d N w hx hW hN hl hd hd').mono fun e w' h => by
    obtain ⟨⟨ao', l', c', he, ho⟩, hb⟩ := h
    exact ⟨⟨ao', l', c', he, ho.row⟩, hb⟩
end Go.Proofs.YtnodcfeimiimbaaDoor

/- Walks: the page's Up2. -/
namespace Go.Proofs.YtnodcfeimiimbaaDoor
open Go.RowKit
set_option linter.unusedVariables false
set_option linter.unusedSimpArgs false

/-- j noughts, then the first k digits of zs, times P; c is carried -/
structure Up2St (zs : List Int) (j k : Nat) (P c : Int) (L : List Int) : Prop where
  len : L.length = j + k
  wd : Wd 18446744073709551616 L
  c0 : 0 ≤ c
  c1 : c < P
  eq : val 18446744073709551616 L + c * 18446744073709551616 ^ (j + k) = 18446744073709551616 ^ j * (val 18446744073709551616 (zs.take k) * P)
theorem Up2St.step {zs : List Int} {j k : Nat} {P c : Int} {L : List Int} (h : Up2St zs j k P c L) {d c' : Int} (hd : 0 ≤ d ∧ d < 18446744073709551616) (hc : 0 ≤ c' ∧ c' < P) (he : d + c' * 18446744073709551616 = dig zs k * P + c) : Up2St zs j (k + 1) P c' (L ++ [d]) := by
  refine ⟨by simp [h.len]; omega, h.wd.append (Wd.one hd), hc.1, hc.2, ?_⟩
  have h1 := h.eq
  rw [val_snoc, h.len, val_take_dig, show j + (k + 1) = j + k + 1 by omega, Int.pow_succ]
  have e2 : 18446744073709551616 ^ (j + k) * (d + c' * 18446744073709551616) = 18446744073709551616 ^ (j + k) * (dig zs k * P + c) := by rw [he]
  rw [Int.pow_add] at h1 e2 ⊢
  grind
theorem Up2St.ending {a n l : Nat} {c : Int} {L : List Int} (hl : l = (mag a).length) (h : Up2St (mag a) (n / 64) l (2 ^ (n % 64)) c L) : val 18446744073709551616 (L ++ [c]) = ((a * 2 ^ n : Nat) : Int) ∧ Wd 18446744073709551616 (L ++ [c]) := by
  have h1 : c < 18446744073709551616 := by
    have h2 := h.c1
    have h3 : (2 : Int) ^ (n % 64) ≤ 2 ^ 64 := pow_mono' (by decide) (by omega)
    omega
  have e := h.eq
  rw [hl, List.take_length, mag_val, ← hl] at e
  refine ⟨?_, h.wd.append (Wd.one ⟨h.c0, h1⟩)⟩
  rw [val_snoc, h.len, Int.mul_comm, e, Int.natCast_mul, Int.natCast_pow, show (18446744073709551616 : Int) = 2 ^ 64 from rfl, ← Int.pow_mul, Int.mul_left_comm, ← Int.pow_add, show 64 * (n / 64) + n % 64 = n by omega]
  rfl
theorem zeros_val (q : Int) (n : Nat) : val q (List.replicate n 0) = 0 := by
  rw [← V_all q (n := n) (by simp)]; exact V_zeros (fun j _ => dig_zeros _ _)

end Go.Proofs.YtnodcfeimiimbaaDoor

/- Walks: the page's Down2. -/
namespace Go.Proofs.YtnodcfeimiimbaaDoor
open Go.RowKit
set_option linter.unusedVariables false
set_option linter.unusedSimpArgs false

/-- the digits of zs from j on, k of them, over P -/
structure Down2St (zs : List Int) (j k : Nat) (P : Int) (L : List Int) : Prop where
  len : L.length = k
  wd : Wd 18446744073709551616 L
  eq : val 18446744073709551616 L * P + dig zs j % P = V 18446744073709551616 zs j k + dig zs (j + k) % P * 18446744073709551616 ^ k
theorem Down2St.step {zs : List Int} {j k : Nat} {P : Int} {L : List Int} (h : Down2St zs j k P L) {d : Int} (hd : 0 ≤ d ∧ d < 18446744073709551616) (he : d * P + dig zs (j + k) % P = dig zs (j + k) + dig zs (j + k + 1) % P * 18446744073709551616) : Down2St zs j (k + 1) P (L ++ [d]) := by
  refine ⟨by simp [h.len], h.wd.append (Wd.one hd), ?_⟩
  have h1 := h.eq
  rw [val_snoc, h.len, V_succ, Int.pow_succ, show j + (k + 1) = j + k + 1 by omega]
  have e2 : 18446744073709551616 ^ k * (d * P + dig zs (j + k) % P) = 18446744073709551616 ^ k * (dig zs (j + k) + dig zs (j + k + 1) % P * 18446744073709551616) := by rw [he]
  grind
theorem down_num {a n : Nat} {r X : Int} (hj : n / 64 ≤ (mag a).length) (e : X * 2 ^ (n % 64) + r = val 18446744073709551616 ((mag a).drop (n / 64))) (r0 : 0 ≤ r) (r1 : r < 2 ^ (n % 64)) : X = ((a / 2 ^ n : Nat) : Int) := by
  have e2 := val_take_drop 18446744073709551616 (mag a) (n / 64) hj
  rw [mag_val] at e2
  have h3 := val_lt (q := 18446744073709551616) (by decide) ((mag_wd a).take (n / 64))
  have h4 := val_nonneg (q := 18446744073709551616) (by decide) ((mag_wd a).take (n / 64))
  rw [List.length_take, Nat.min_eq_left hj] at h3
  obtain ⟨D, hD⟩ : ∃ D, val 18446744073709551616 ((mag a).drop (n / 64)) = D := ⟨_, rfl⟩
  obtain ⟨T, hT⟩ : ∃ T, val 18446744073709551616 ((mag a).take (n / 64)) = T := ⟨_, rfl⟩
  rw [hD] at e e2; rw [hT] at e2 h3 h4
  obtain ⟨P, hP⟩ : ∃ P : Int, (18446744073709551616 : Int) ^ (n / 64) = P := ⟨_, rfl⟩
  obtain ⟨S, hS⟩ : ∃ S : Int, (2 : Int) ^ (n % 64) = S := ⟨_, rfl⟩
  have hPS : P * S = ((2 ^ n : Nat) : Int) := by
    rw [← hP, ← hS, show (18446744073709551616 : Int) = 2 ^ 64 from rfl, ← Int.pow_mul, ← Int.pow_add, Int.natCast_pow]
    congr 1; omega
  rw [hS] at e r1; rw [hP] at e2 h3
  have hP0 : 0 < P := by rw [← hP]; exact Int.pow_pos (by decide)
  have k1 : P * r + P ≤ P * S := by
    have : P * (r + 1) ≤ P * S := Int.mul_le_mul_of_nonneg_left (by omega) (by omega)
    rw [Int.mul_add, Int.mul_one] at this; exact this
  have k2 : 0 ≤ P * r := Int.mul_nonneg (by omega) r0
  have k3 : X * ((2 ^ n : Nat) : Int) + (P * r + T) = (a : Int) := by
    rw [e2, ← e, ← hPS]; grind
  exact (nat_div_of k3 (by omega) (by rw [← hPS]; omega)).1
theorem V_rest (q : Int) {L : List Int} {j n : Nat} (h : n = L.length - j) : V q L j n = val q (L.drop j) := by
  subst h; unfold V; rw [List.take_of_length_le (by simp)]
theorem two_mod {d t x o P R : Int} (hP : 0 < P) (hPR : P * R = 18446744073709551616) (ht : 0 ≤ t ∧ t < P) (he : d * P + t = o * 18446744073709551616 + x) : t = x % P := by
  have h1 : x = t + P * (d - o * R) := by rw [Int.mul_sub, Int.mul_left_comm P o R, hPR, Int.mul_comm P d]; omega
  rw [h1, Int.add_mul_emod_self_left, Int.emod_eq_of_lt ht.1 ht.2]
/-- one limb of a number shifted down -/
theorem down2_ex (x y : Int) (s : Nat) (hs : s < 64) (hx : 0 ≤ x ∧ x < 18446744073709551616) (hy : 0 ≤ y ∧ y < 18446744073709551616) :
    ∃ d : Int, bits .or .u64 (x / 2 ^ s) (IntKind.u64.wrap (y * 2 ^ (64 - s))) = d ∧ (0 ≤ d ∧ d < 18446744073709551616) ∧ d * 2 ^ s + x % 2 ^ s = x + y % 2 ^ s * 18446744073709551616 := by
  obtain ⟨P, R, hP, hR, hP0, hR0, hPR, hPi, hRi⟩ := pow_pair hs
  have hPR' : (P : Int) * (R : Int) = 18446744073709551616 := by rw [← Int.natCast_mul, hPR]; rfl
  have hPp : (0 : Int) < 2 ^ s := Int.pow_pos (by decide)
  obtain ⟨d0, ty, _, hw, _, ht, he⟩ := down_ex y s 0 hs hy ⟨Int.le_refl _, hPp⟩
  have hty : ty = y % 2 ^ s := two_mod (R := R) hPp (by rw [hPi]; exact hPR') ht he
  obtain ⟨d, t, hd, _, hdb, ht2, he2⟩ := down_ex x s ty hs hx ht
  have htx : t = x % 2 ^ s := two_mod (R := R) hPp (by rw [hPi]; exact hPR') ht2 he2
  refine ⟨d, by rw [hw]; exact hd, hdb, ?_⟩
  rw [← hty, ← htx]; omega

end Go.Proofs.YtnodcfeimiimbaaDoor

/- Walks: the page's Times, Zero. -/
namespace Go.Proofs.YtnodcfeimiimbaaDoor
open Go.RowKit
set_option linter.unusedVariables false
set_option linter.unusedSimpArgs false

end Go.Proofs.YtnodcfeimiimbaaDoor
