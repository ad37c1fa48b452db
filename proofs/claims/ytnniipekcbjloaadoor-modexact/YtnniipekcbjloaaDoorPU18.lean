/-
  HA, HB, HC, HD, HE.
-/
import Derived.Test.YtnniipekcbjloaaDoorPU16
import Derived.Test.YtnniipekcbjloaaDoorPU17
import Derived.ArgAppend
/- Walks: the page's NTimes. -/
namespace Go.Proofs.YtnniipekcbjloaaDoor
open Go.RowKit
set_option linter.unusedVariables false
set_option linter.unusedSimpArgs false
theorem below_drawn {B : Nat} {w w' : World} (h : Below B w w') (n : Nat) : Below B w (w'.drewN n) := ⟨h.os, h.tape, h.output, h.size, h.block⟩
theorem prod_start {q : Int} (hq : 0 < q) (x y : List Int) (lx ly : Nat) : ProdSt q (List.replicate (lx + ly) 0) x y 0 lx ly 0 (List.replicate (lx + ly) 0) := by
  refine ⟨rfl, fun _ _ => rfl, wd_zeros hq _, fun j _ _ => dig_zeros _ _, ?_⟩
  rw [V_zeros (fun j hj => dig_zeros _ _)]
  simp [val]
set_option maxRecDepth 100000 in
set_option maxHeartbeats 3000000 in
theorem ntimes_any (ao bo : Option Addr) (la ca lb cb : Nat) (a n2 : Nat) (w : World) (hx : RowAt w .u64 ao la ca (mag a)) (hy : RowAt w .u64 bo lb cb (mag n2)) (hl : la ≤ 1073741824) (hl' : lb ≤ 1073741824) :
    Calls Tryd.prog 99 #[.slice ao la ca, .slice bo lb cb] w fun e w' => NewNat w w' e (a * n2) := by
  obtain ⟨i0, hi, hz0, hz1, hz2⟩ := info_parts info32
  have HI : Hid (RowAt w .u64 ao la ca (mag a) ∧ RowAt w .u64 bo lb cb (mag n2)) := ⟨hx, hy⟩
  clear hx hy
  go_enter Tryd.func99, Tryd.ntmps99
  go_wp2_with (first
    | (go_at_call_of 88 ao; refine (halves_any ao la ca (mag a) _ HI.out.1 (mag_wd a) (by omega) a (mag_val a)).mono ?_; rintro e w0 ⟨⟨xo, lx, cx, rfl, hX0⟩, hb0⟩; have HX0 : Hid (RowAt w0 .u32 xo lx cx (half a)) := hX0; clear hX0)
    | (go_at_call 88; refine (halves_any bo lb cb (mag n2) _ (HI.out.2.later hb0) (mag_wd n2) (by omega) n2 (mag_val n2)).mono ?_; rintro e w1 ⟨⟨yo, ly, cy, rfl, hY⟩, hb1⟩; have HXY : Hid (RowAt w1 .u32 xo lx cx (half a) ∧ RowAt w1 .u32 yo ly cy (half n2) ∧ Below w.heap.size w w1) := ⟨HX0.out.later hb1, hY, bnext hb0 hb1⟩; have hlx : lx ≤ 2147483648 := (by have := half_len_le HI.out.1.hlen; rw [← HXY.out.1.hlen] at this; omega); have hly : ly ≤ 2147483648 := (by have := half_len_le HI.out.2.hlen; rw [← HXY.out.2.1.hlen] at this; omega); have b1 : Hid (i0.bytes * (ly + lx) ≤ 281474976710656) := (by show _ ≤ _; rw [hz2]; omega); have b2 : Hid (ly + lx ≤ maxLen) := (by show _ ≤ _; unfold maxLen; omega); clear HX0 hY hb0 hb1)
    | (at_make; refine wpList_make_full _ rfl (.tmp 19) (.tmp 19) 109 rfl w1.heap.size 111 i0 (.int .u32 0) 1 Tryd.underlying109 hi hz0 hz1 .i64 .i64 _ _ (ly + lx) rfl rfl (by omega) (by omega) b1.out b2.out (Nat.le_refl _) ?_; intro w2 hown2 hgrow2; have HM : Hid (Blk w2 w1.heap.size .u32 111 (List.replicate (ly + lx) 0) ∧ Below w1.heap.size w1 w2) := ⟨made_blk hown2, grown_below hgrow2⟩; clear hown2 hgrow2))
  go_loopw [8] (fun i wr => ∃ (k : Nat) (Lk : List Int), k ≤ lx ∧ i = .int .i64 k ∧ ProdSt 4294967296 (List.replicate (ly + lx) 0) (half n2) (half a) 0 ly lx k Lk ∧ Blk wr w1.heap.size .u32 111 Lk ∧ Below w1.heap.size w1 wr) (fun i _ => lx - (intOf i).toNat)
  case atStart => exact ⟨0, _, Nat.zero_le _, rfl, prod_start (by decide) _ _ _ _, HM.out.1, HM.out.2⟩
  case round =>
    obtain ⟨k, Lk, hk, rfl, hst, hbl, hbel⟩ := hrel
    have HS : Hid (ProdSt 4294967296 (List.replicate (ly + lx) 0) (half n2) (half a) 0 ly lx k Lk ∧ Blk wr w1.heap.size .u32 111 Lk ∧ Below w1.heap.size w1 wr) := ⟨hst, hbl, hbel⟩
    have hlen : Lk.length = ly + lx := by rw [hst.len]; simp
    clear hst hbl hbel
    by_cases hlt : k < lx
    · obtain ⟨b, off, rfl, hb, hc⟩ := HXY.out.1.get (by omega)
      obtain ⟨u, hu⟩ : ∃ u, dig (half a) k = u := ⟨_, rfl⟩
      have HU : Hid (dig (half a) k = u ∧ w1.cell? ⟨b, off + k, none⟩ = some (.int .u32 u)) := ⟨hu, hu ▸ hc k hlt⟩
      have hub : 0 ≤ u ∧ u < 4294967296 := hu ▸ (half_wd a).dig (by decide) k
      obtain ⟨hu1, hu2⟩ := hub
      clear hc hu
      go_wp2
      go_loopw [9, 10] (fun c i w3 => ∃ (j : Nat) (cv : Int) (Lj : List Int), j ≤ ly ∧ i = .int .i64 j ∧ c = .int .u64 cv ∧ MulSt 4294967296 Lk (half n2) u (0 + k) j cv Lj ∧ Blk w3 w1.heap.size .u32 111 Lj ∧ Below w1.heap.size w1 w3) (fun _ i _ => ly - (intOf i).toNat)
      case atStart => exact ⟨0, 0, Lk, Nat.zero_le _, rfl, rfl, MulSt.start _ HS.out.1.wd (by decide), HS.out.2.1, HS.out.2.2⟩
      case round =>
        obtain ⟨j, cv, Lj, hj, rfl, rfl, hst, hbl, hbel⟩ := hrel
        have HT : Hid (MulSt 4294967296 Lk (half n2) u (0 + k) j cv Lj ∧ Blk wr w1.heap.size .u32 111 Lj ∧ Below w1.heap.size w1 wr) := ⟨hst, hbl, hbel⟩
        have hlj : Lj.length = ly + lx := by rw [hst.len]; exact hlen
        have hc0 := hst.c0
        have hc1 := hst.c1
        have hgs : w1.heap.size < wr.heap.size := hbl.lt
        have hbs : b < wr.heap.size := by have := hbel.size; omega
        have hcx : wr.cell? ⟨b, off + k, none⟩ = some (.int .u32 u) := (hbel.cell (p := ⟨b, off + k, none⟩) hb).trans HU.out.2
        by_cases hjl : j < ly
        · obtain ⟨b', off', rfl, hb', hc'⟩ := HXY.out.2.1.get (by omega)
          obtain ⟨v, hv⟩ : ∃ v, dig (half n2) j = v := ⟨_, rfl⟩
          obtain ⟨z, hz⟩ : ∃ z, dig Lj (k + j) = z := ⟨_, rfl⟩
          have hcy : wr.cell? ⟨b', off' + j, none⟩ = some (.int .u32 v) := hv ▸ (hbel.cell (p := ⟨b', off' + j, none⟩) hb').trans (hc' j hjl)
          have hbs' : b' < wr.heap.size := by have := hbel.size; omega
          have hcz : wr.cell? ⟨w1.heap.size, k + j, none⟩ = some (.int .u32 z) := hz ▸ hbl.cell (by omega)
          have hfz := hbl.frozen (k + j)
          obtain ⟨hv1, hv2⟩ : 0 ≤ v ∧ v < 4294967296 := hv ▸ (half_wd n2).dig (by decide) j
          obtain ⟨hz1', hz2'⟩ : 0 ≤ z ∧ z < 4294967296 := hz ▸ hst.wd.dig (by decide) (k + j)
          have hzL : dig Lk (0 + k + j) = z := by rw [← hst.out (0 + k + j) (by omega), ← hz]; congr 1; omega
          have HV : Hid (dig (half n2) j = v ∧ dig Lk (0 + k + j) = z) := ⟨hv, hzL⟩
          obtain ⟨pv, hpv⟩ : ∃ p, u * v = p := ⟨_, rfl⟩
          have hp0 : 0 ≤ pv := hpv ▸ Int.mul_nonneg hu1 hv1
          have hp1 : pv ≤ 18446744065119617025 := by
            have : u * v ≤ 4294967295 * 4294967295 := Int.mul_le_mul (by omega) (by omega) hv1 (by decide)
            omega
          have HP : Hid (u * v = pv) := hpv
          have hkj : k + j < ly + lx := by omega
          clear hst hbl hc' hv hz hzL
          go_wp2
          go_quiet (fail)
          go_wp2
          have HN : Hid (MulSt 4294967296 Lk (half n2) u (0 + k) (j + 1) ((cv + z + pv) / 4294967296) (Lj.set (k + j) ((cv + z + pv) % 4294967296))) := by
            show MulSt _ _ _ _ _ _ _ _
            have h1 : (cv + z + pv) % 4294967296 + (cv + z + pv) / 4294967296 * 4294967296 = cv + z + pv := by omega
            have h2 : v * u = pv := by rw [Int.mul_comm]; exact HP.out
            have h := HT.out.1.step (by omega) (d := (cv + z + pv) % 4294967296) (c' := (cv + z + pv) / 4294967296) (by omega) (by omega) (by rw [HV.out.1, HV.out.2, h2]; omega)
            rw [show 0 + k + j = k + j by omega] at h
            exact h
          go_roundw
          case rel => exact ⟨j + 1, _, _, by omega, by go_num, rfl, HN.out, (HT.out.2.1.drewN _).set _ _, (below_drawn HT.out.2.2 _).setCell (p := ⟨w1.heap.size, k + j, none⟩) (Nat.le_refl _) _⟩
          case measure => simp [intOf]; omega
        · obtain rfl : j = ly := by omega
          have hcz : wr.cell? ⟨w1.heap.size, k + j, none⟩ = some (.int .u32 (dig Lj (k + j))) := hbl.cell (by omega)
          have hfz := hbl.frozen (k + j)
          have ec : cv % 4294967296 = cv := by omega
          have hkj : k + j < j + lx := by omega
          clear hst hbl
          go_wp2
          go_roundw
          case rel => exact ⟨k + 1, Lj.set (0 + (k + j)) cv, by omega, by go_num, HS.out.1.step (by simp) hlt (by rw [← HXY.out.2.1.hlen]; exact Nat.le_refl _) (HU.out.1 ▸ HT.out.1), by rw [Nat.zero_add]; exact HT.out.2.1.set _ _, HT.out.2.2.setCell (p := ⟨w1.heap.size, k + j, none⟩) (Nat.le_refl _) _⟩
          case measure => simp [intOf]; omega
    · obtain rfl : k = lx := by omega
      have HV : Hid (Wd 4294967296 Lk ∧ val 4294967296 Lk = ((a * n2 : Nat) : Int) ∧ ly + k = Lk.length) := by
        have e := HS.out.1.eq
        rw [V_all _ (by omega), List.take_of_length_le (by rw [← HXY.out.1.hlen]; exact Nat.le_refl _), half_val, half_val, ← Int.natCast_mul, Nat.mul_comm] at e
        exact ⟨HS.out.1.wd, e, hlen.symm⟩
      go_wp2_with (first
        | (go_at_call 101; refine (cut_any (some ⟨w1.heap.size, 0, none⟩) (ly + k) (ly + k) Lk _ (Own.whole (B := 0) HS.out.2.1 (Nat.zero_le _) HV.out.2.2).row (by omega)).mono ?_; rintro e w4 ⟨hT, hw4⟩; obtain ⟨ao', n', cap', hn', rfl, hrow', hcan', hval', hrest⟩ := hT; subst hw4; have hn2 : n' ≤ 8589934592 := by omega)
        | (go_at_call 90; refine (whole_any ao' n' cap' (Lk.take n') _ hrow' (HV.out.1.take n') hn2 (a * n2) (by rw [hval', HV.out.2.1])).mono ?_; rintro e w5 ⟨ao5, l5, c5, rfl, ho5, hb5⟩))
      go_ret
      exact ⟨_, _, _, rfl, ho5.mono (by have := HS.out.2.2.size; have := HXY.out.2.2.size; omega), bnext (bnext HXY.out.2.2 HS.out.2.2) hb5⟩
end Go.Proofs.YtnniipekcbjloaaDoor
/- Walks: the page's short (a row of halves divided by one). -/
namespace Go.Proofs.YtnniipekcbjloaaDoor
open Go.RowKit
set_option linter.unusedVariables false
set_option linter.unusedSimpArgs false
theorem or_shift2 (a b : Int) (ha : 0 ≤ a ∧ a < 4294967296) (hb : 0 ≤ b ∧ b < 4294967296) : bits .or .u64 (b * 4294967296) a = b * 4294967296 + a := by
  have h := or_shift a b ha hb
  have e : bits .or .u64 (b * 4294967296) a = bits .or .u64 a (b * 4294967296) := by
    unfold bits
    simp [Nat.or_comm]
  rw [e, h, Int.mul_comm 4294967296 b, Int.add_comm]
theorem V_low (q : Int) (L : List Int) (off n : Nat) : V q L off (n + 1) = dig L off + q * V q L (off + 1) n := by
  rw [Nat.add_comm n 1, V_split, V_succ, V_zero, Int.pow_succ]; simp
/-- the digits of xs from k on were divided by d; r is left -/
structure ShortSt (q : Int) (xs : List Int) (d : Int) (k n : Nat) (r : Int) (L : List Int) : Prop where
  len : L.length = xs.length
  wd : Wd q L
  r0 : 0 ≤ r
  r1 : r < d
  eq : V q L k n * d + r = V q xs k n
theorem ShortSt.step {q : Int} {xs : List Int} {d : Int} {k n : Nat} {r : Int} {L : List Int} (h : ShortSt q xs d (k + 1) n r L) (hk : k < xs.length) {u r' : Int} (hu : 0 ≤ u ∧ u < q) (hr : 0 ≤ r' ∧ r' < d) (he : u * d + r' = r * q + dig xs k) : ShortSt q xs d k (n + 1) r' (L.set k u) := by
  have hl : k < L.length := by rw [h.len]; exact hk
  refine ⟨by simp [h.len], h.wd.set _ hu, hr.1, hr.2, ?_⟩
  have e1 : V q (L.set k u) (k + 1) n = V q L (k + 1) n := V_congr fun j hj => by rw [dig_set _ hl, if_neg (by omega)]
  rw [V_low, V_low, e1, dig_set _ hl, if_pos rfl]
  have h1 := h.eq
  grind
set_option maxRecDepth 100000 in
set_option maxHeartbeats 3000000 in
theorem short_new (xo : Option Addr) (lx cx : Nat) (xs : List Int) (d : Int) (N : Nat) (w : World) (hx : RowAt w .u32 xo lx cx xs) (hW : Wd 4294967296 xs) (hN : val 4294967296 xs = (N : Int)) (hl : lx ≤ 4294967296) (hd : 0 < d) (hd' : d < 4294967296) :
    Calls Tryd.prog 89 #[.slice xo lx cx, .int .u32 d] w fun e w' => (∃ ao' l' c', e = .returned (.tuple #[.slice ao' l' c', .int .u32 (N % d)]) ∧ Own w.heap.size w' .u32 111 ao' l' c' (half (N / d.toNat))) ∧ Below w.heap.size w w' := by
  obtain ⟨i0, hi, hz0, hz1, hz2⟩ := info_parts info32
  have HI : Hid (RowAt w .u32 xo lx cx xs ∧ Wd 4294967296 xs ∧ val 4294967296 xs = (N : Int) ∧ lx = xs.length) := ⟨hx, hW, hN, hx.hlen⟩
  have b1 : Hid (i0.bytes * lx ≤ 281474976710656) := by show _ ≤ _; rw [hz2]; omega
  have b2 : Hid (lx ≤ maxLen) := by show _ ≤ _; unfold maxLen; omega
  have hd0 : (d == 0) = false := by simp; omega
  have hdn : ¬ d = 0 := by omega
  clear hx hW hN
  go_enter Tryd.func89, Tryd.ntmps89
  go_wp2_with (at_make; refine wpList_make_full _ rfl (.tmp 10) (.tmp 10) 109 rfl w.heap.size 111 i0 (.int .u32 0) 1 Tryd.underlying109 hi hz0 hz1 .i64 .i64 _ _ lx rfl rfl rfl rfl b1.out b2.out (Nat.le_refl _) ?_; intro w2 hown2 hgrow2; have HM : Hid (Blk w2 w.heap.size .u32 111 (List.replicate lx 0) ∧ Below w.heap.size w w2) := ⟨made_blk hown2, grown_below hgrow2⟩; clear hown2 hgrow2)
  go_loopw [7, 8] (fun r i wr => ∃ (k : Nat) (rv : Int) (L : List Int), k ≤ lx ∧ i = .int .i64 ((k : Int) - 1) ∧ r = .int .u64 rv ∧ ShortSt 4294967296 xs d k (lx - k) rv L ∧ Blk wr w.heap.size .u32 111 L ∧ Below w.heap.size w wr) (fun _ i _ => (intOf i + 1).toNat)
  case atStart => exact ⟨lx, 0, List.replicate lx 0, Nat.le_refl _, rfl, rfl, ⟨by simp [HI.out.2.2.2], wd_zeros (by decide) _, by decide, hd, by rw [Nat.sub_self, V_zero, V_zero]; simp⟩, HM.out.1, HM.out.2⟩
  case round =>
    obtain ⟨k, rv, L, hk, rfl, rfl, hst, hbl, hbel⟩ := hrel
    have HS : Hid (ShortSt 4294967296 xs d k (lx - k) rv L ∧ Blk wr w.heap.size .u32 111 L ∧ Below w.heap.size w wr) := ⟨hst, hbl, hbel⟩
    have hr0 := hst.r0
    have hr1 := hst.r1
    rcases k with _ | k
    · have HV : Hid (val 4294967296 L = ((N / d.toNat : Nat) : Int) ∧ rv = N % d ∧ lx = L.length) := by
        have e := hst.eq
        have el : lx = L.length := by rw [hst.len]; exact HI.out.2.2.2
        rw [Nat.sub_zero, V_all _ el, V_all _ HI.out.2.2.2, HI.out.2.2.1] at e
        have h1 : (N : Int) / d = val 4294967296 L := by
          rw [← e, Int.add_comm, Int.add_mul_ediv_right _ _ (by omega), Int.ediv_eq_zero_of_lt hr0 hr1, Int.zero_add]
        have h2 : (N : Int) % d = rv := by
          rw [← e, Int.add_comm, Int.add_mul_emod_self_right, Int.emod_eq_of_lt hr0 hr1]
        have h3 : ((N / d.toNat : Nat) : Int) = (N : Int) / d := by rw [Int.natCast_ediv]; congr 1; omega
        exact ⟨by rw [h3, h1], h2.symm, el⟩
      have er : rv % 4294967296 = rv := by omega
      clear hst hbl hbel
      go_wp2_with (go_at_call 101; refine (cut_any (some ⟨w.heap.size, 0, none⟩) lx lx L _ (Own.whole (B := 0) HS.out.2.1 (Nat.zero_le _) HV.out.2.2).row (by omega)).mono ?_; rintro e w4 ⟨hT, hw4⟩; obtain ⟨ao', n', cap', hn', rfl, hrow', hcan', hval', hrest⟩ := hT; subst hw4)
      have hh : half (N / d.toNat) = L.take n' := half_of (HS.out.1.wd.take n') hcan' (by rw [hval', HV.out.1])
      exact bodyPost_ret (v := .tuple #[.slice ao' n' cap', .int .u32 rv]) (by simp [results, Tryd.results89, go_sem]) rfl ⟨⟨_, _, _, by rw [HV.out.2.1], by
        rw [hh]
        rcases hrest with ⟨rfl, rfl⟩ | ⟨rfl, rfl⟩
        · exact (Own.whole HS.out.2.1 (Nat.le_refl _) HV.out.2.2).take hn'
        · have hc0 := hrow'.hnil rfl
          subst hc0
          rw [List.take_zero]; exact Own.none_⟩, HS.out.2.2⟩
    · have hc1 : ((k + 1 : Nat) : Int) - 1 = (k : Int) := by omega
      rw [hc1]
      obtain ⟨b, off, rfl, hb, hc⟩ := HI.out.1.get (by omega)
      obtain ⟨x, hx⟩ : ∃ x, dig xs k = x := ⟨_, rfl⟩
      have hcx : wr.cell? ⟨b, off + k, none⟩ = some (.int .u32 x) := hx ▸ (hbel.cell (p := ⟨b, off + k, none⟩) hb).trans (hc k (by omega))
      have hbs : b < wr.heap.size := by have := hbel.size; omega
      have hgs : w.heap.size < wr.heap.size := hbl.lt
      have hcz : wr.cell? ⟨w.heap.size, k, none⟩ = some (.int .u32 (dig L k)) := hbl.cell (by rw [hst.len, ← HI.out.2.2.2]; omega)
      have hfz := hbl.frozen k
      obtain ⟨hx1, hx2⟩ : 0 ≤ x ∧ x < 4294967296 := hx ▸ HI.out.2.1.dig (by decide) k
      have hor := or_shift2 x rv ⟨hx1, hx2⟩ ⟨hr0, by omega⟩
      have HX : Hid (dig xs k = x) := hx
      clear hst hbl hc hx
      have hT0 : 0 ≤ rv * 4294967296 + x := by omega
      have hq1 : (rv * 4294967296 + x) / d < 4294967296 := Int.ediv_lt_of_lt_mul hd (by
        have : (rv + 1) * 4294967296 ≤ d * 4294967296 := Int.mul_le_mul_of_nonneg_right (by omega) (by decide)
        rw [Int.mul_comm 4294967296 d]
        omega)
      have hq0 : 0 ≤ (rv * 4294967296 + x) / d := Int.ediv_nonneg hT0 (by omega)
      have hm0 := Int.emod_nonneg (rv * 4294967296 + x) hdn
      have hm1 := Int.emod_lt_of_pos (rv * 4294967296 + x) hd
      have HN : Hid (ShortSt 4294967296 xs d k (lx - k) ((rv * 4294967296 + x) % d) (L.set k ((rv * 4294967296 + x) / d))) := by
        show ShortSt _ _ _ _ _ _ _
        rw [show lx - k = lx - (k + 1) + 1 by omega]
        refine HS.out.1.step (by rw [← HI.out.2.2.2]; omega) ⟨hq0, hq1⟩ ⟨hm0, hm1⟩ ?_
        rw [HX.out]
        have := Int.mul_ediv_add_emod (rv * 4294967296 + x) d
        rw [Int.mul_comm] at this
        exact this
      go_wp2
      go_roundw
      case rel => exact ⟨k, _, _, by omega, by go_num, rfl, HN.out, HS.out.2.1.set _ _, HS.out.2.2.setCell (p := ⟨w.heap.size, k, none⟩) (Nat.le_refl _) _⟩
      case measure => simp [intOf]
theorem short_any (xo : Option Addr) (lx cx : Nat) (xs : List Int) (d : Int) (N : Nat) (w : World) (hx : RowAt w .u32 xo lx cx xs) (hW : Wd 4294967296 xs) (hN : val 4294967296 xs = (N : Int)) (hl : lx ≤ 4294967296) (hd : 0 < d) (hd' : d < 4294967296) :
    Calls Tryd.prog 89 #[.slice xo lx cx, .int .u32 d] w fun e w' => (∃ ao' l' c', e = .returned (.tuple #[.slice ao' l' c', .int .u32 (N % d)]) ∧ RowAt w' .u32 ao' l' c' (half (N / d.toNat))) ∧ Below w.heap.size w w' :=
  (short_new xo lx cx xs d N w hx hW hN hl hd hd').mono fun e w' h => by
    obtain ⟨⟨ao', l', c', he, ho⟩, hb⟩ := h
    exact ⟨⟨ao', l', c', he, ho.row⟩, hb⟩
end Go.Proofs.YtnniipekcbjloaaDoor
/- Walks: the page's Up2. -/
namespace Go.Proofs.YtnniipekcbjloaaDoor
open Go.RowKit
set_option linter.unusedVariables false
set_option linter.unusedSimpArgs false
/-- j noughts, then the first k digits of zs, times P; c is carried -/
structure Up2St (zs : List Int) (j k : Nat) (P c : Int) (L : List Int) : Prop where
  len : L.length = j + k
  wd : Wd 18446744073709551616 L
  c0 : 0 ≤ c
  c1 : c < P
  eq : val 18446744073709551616 L + c * 18446744073709551616 ^ (j + k) = 18446744073709551616 ^ j * (val 18446744073709551616 (zs.take k) * P)
theorem Up2St.step {zs : List Int} {j k : Nat} {P c : Int} {L : List Int} (h : Up2St zs j k P c L) {d c' : Int} (hd : 0 ≤ d ∧ d < 18446744073709551616) (hc : 0 ≤ c' ∧ c' < P) (he : d + c' * 18446744073709551616 = dig zs k * P + c) : Up2St zs j (k + 1) P c' (L ++ [d]) := by
  refine ⟨by simp [h.len]; omega, h.wd.append (Wd.one hd), hc.1, hc.2, ?_⟩
  have h1 := h.eq
  rw [val_snoc, h.len, val_take_dig, show j + (k + 1) = j + k + 1 by omega, Int.pow_succ]
  have e2 : 18446744073709551616 ^ (j + k) * (d + c' * 18446744073709551616) = 18446744073709551616 ^ (j + k) * (dig zs k * P + c) := by rw [he]
  rw [Int.pow_add] at h1 e2 ⊢
  grind
theorem Up2St.ending {a n l : Nat} {c : Int} {L : List Int} (hl : l = (mag a).length) (h : Up2St (mag a) (n / 64) l (2 ^ (n % 64)) c L) : val 18446744073709551616 (L ++ [c]) = ((a * 2 ^ n : Nat) : Int) ∧ Wd 18446744073709551616 (L ++ [c]) := by
  have h1 : c < 18446744073709551616 := by
    have h2 := h.c1
    have h3 : (2 : Int) ^ (n % 64) ≤ 2 ^ 64 := pow_mono' (by decide) (by omega)
    omega
  have e := h.eq
  rw [hl, List.take_length, mag_val, ← hl] at e
  refine ⟨?_, h.wd.append (Wd.one ⟨h.c0, h1⟩)⟩
  rw [val_snoc, h.len, Int.mul_comm, e, Int.natCast_mul, Int.natCast_pow, show (18446744073709551616 : Int) = 2 ^ 64 from rfl, ← Int.pow_mul, Int.mul_left_comm, ← Int.pow_add, show 64 * (n / 64) + n % 64 = n by omega]
  rfl
theorem zeros_val (q : Int) (n : Nat) : val q (List.replicate n 0) = 0 := by
  rw [← V_all q (n := n) (by simp)]; exact V_zeros (fun j _ => dig_zeros _ _)
set_option maxRecDepth 100000 in
set_option maxHeartbeats 3000000 in
theorem up2_any (ao : Option Addr) (la ca n : Nat) (a : Nat) (w : World) (hx : RowAt w .u64 ao la ca (mag a)) (hl : la ≤ 4294967296) (hn : n < 274877906944) :
    Calls Tryd.prog 92 #[.slice ao la ca, .int .i64 (n : Int)] w fun e w' => NewNat w w' e (a * 2 ^ n) := by
  obtain ⟨i0, hi, hz0, hz1, hz2⟩ := info_parts info64
  have hdiv : (n : Int).tdiv 64 = ((n / 64 : Nat) : Int) := by rw [Int.tdiv_eq_ediv_of_nonneg (by omega)]; omega
  have hmod : (n : Int).tmod 64 = ((n % 64 : Nat) : Int) := by rw [Int.tmod_eq_emod_of_nonneg (by omega)]; omega
  obtain ⟨j, hj⟩ : ∃ j, n / 64 = j := ⟨_, rfl⟩
  obtain ⟨s, hs⟩ : ∃ s, n % 64 = s := ⟨_, rfl⟩
  have hs64 : s < 64 := by omega
  have hj' : j ≤ 4294967296 := by omega
  rw [hj] at hdiv; rw [hs] at hmod
  have HX : Hid (RowAt w .u64 ao la ca (mag a) ∧ la = (mag a).length) := ⟨hx, hx.hlen⟩
  have HJ : Hid (n / 64 = j ∧ n % 64 = s) := ⟨hj, hs⟩
  clear hj hs
  by_cases hge : la = 0
  · subst hge
    have HZ : Hid (a * 2 ^ n = 0) := by
      show _ = _
      have : ¬ 0 < a := fun h => by have := mag_len_pos.2 h; rw [← hx.hlen] at this; omega
      rw [show a = 0 by omega, Nat.zero_mul]
    clear hx
    go_enter Tryd.func92, Tryd.ntmps92
    go_wp2
    go_ret
    exact ⟨none, 0, 0, rfl, by rw [HZ.out]; exact Own.none_, Below.refl _ _⟩
  · have hge' : ((la : Int) == 0) = false := by simp; omega
    have b1 : Hid (i0.bytes * j ≤ 281474976710656) := by show _ ≤ _; rw [hz2]; omega
    have b2 : Hid (j ≤ maxLen) := by show _ ≤ _; unfold maxLen; omega
    clear hx
    go_enter Tryd.func92, Tryd.ntmps92
    go_wp2_with (at_make; refine wpList_make_full _ rfl (.tmp 13) (.tmp 13) 63 rfl w.heap.size 25 i0 (.int .u64 0) 1 Tryd.underlying63 hi hz0 hz1 .i64 .i64 _ _ j rfl rfl (by omega) (by omega) b1.out b2.out (Nat.le_refl _) ?_; intro w1 hown1 hgrow1; have HB : Hid (w1.ownsRow w.heap.size 25 1 (.slice (some ⟨w.heap.size, 0, none⟩) j j) j ((List.replicate j (0 : Int)).map (Value.int .u64)) ∧ Below w.heap.size w w1) := ⟨by rw [made_map] at hown1; exact hown1, grown_below hgrow1⟩; clear hown1 hgrow1)
    go_loopw [5, 7, 8] (fun v c i wr => ∃ (k : Nat) (cv : Int) (L : List Int), k ≤ la ∧ i = .int .i64 k ∧ c = .int .u64 cv ∧ Up2St (mag a) j k (2 ^ s) cv L ∧ wr.ownsRow w.heap.size 25 1 v (j + k) (L.map (Value.int .u64)) ∧ Below w.heap.size w wr) (fun _ _ i _ => la - (intOf i).toNat)
    case atStart => exact ⟨0, 0, List.replicate j 0, Nat.zero_le _, rfl, rfl, ⟨by simp, wd_zeros (by decide) _, by decide, Int.pow_pos (by decide), by rw [zeros_val]; simp [val]⟩, HB.out.1, HB.out.2⟩
    case round =>
      obtain ⟨k, cv, L, hk, rfl, rfl, hst, hown, hbel⟩ := hrel
      have HS : Hid (Up2St (mag a) j k (2 ^ s) cv L) := hst
      have h63 : Hid (j + k + 1 ≤ maxLen) := by show _ ≤ _; unfold maxLen; omega
      have hby : Hid ((j + k + 1) * 8 ≤ 140737488355328) := by show _ ≤ _; omega
      have hbz : Hid (w.heap.size ≤ wr.heap.size + 1) := by show _ ≤ _; have := hbel.size; omega
      by_cases hlt : k < la
      · obtain ⟨b, off, rfl, hb, hc⟩ := HX.out.1.get (by omega)
        obtain ⟨x, hx⟩ : ∃ x, dig (mag a) k = x := ⟨_, rfl⟩
        have hcx : wr.cell? ⟨b, off + k, none⟩ = some (.int .u64 x) := hx ▸ (hbel.cell (p := ⟨b, off + k, none⟩) hb).trans (hc k hlt)
        have hbs : b < wr.heap.size := by have := hbel.size; omega
        have bx : 0 ≤ x ∧ x < 18446744073709551616 := hx ▸ (mag_wd a).dig (by decide) k
        obtain ⟨d, c, hd, hcc, hd1, hc1, he⟩ := up_ex x s cv hs64 bx ⟨hst.c0, hst.c1⟩
        have HN : Hid (Up2St (mag a) j (k + 1) (2 ^ s) c (L ++ [d])) := hst.step hd1 hc1 (by rw [hx]; exact he)
        have HM : Hid ((L ++ [d]).map (Value.int .u64) = L.map (Value.int .u64) ++ [.int .u64 d]) := by show _ = _; rw [List.map_append]; rfl
        have HC : Hid (b < w.heap.size ∧ w.cell? ⟨b, off + k, none⟩ = some (.int .u64 x)) := ⟨hb, hx ▸ hc k hlt⟩
        clear hst hc hx hd1 hc1 he
        by_cases hs0 : s = 0
        · have hs1 : ¬ (0 : Int) < (s : Int) := by omega
          have hc0 : c = 0 := by rw [← hcc, hs0]; exact Int.ediv_eq_zero_of_lt bx.1 bx.2
          subst hc0
          clear hcc bx hs0
          go_wp2_with (at_builtin; refine wpList_append_lies _ rfl _ _ 63 rfl w.heap.size 25 i0 (.int .u64 0) 1 8 Tryd.underlying63 hi hz0 hz1 hz2 rfl (by decide) _ (j + k) _ rfl (hown.alloc _) ⟨wr.heap.size, 0, none⟩ 1 1 [.int .u64 d] rfl rfl (World.news_of_block (cs := #[.int .u64 d]) (t := 25) (fr := (0, 0)) (heap_alloc_new wr _)) (by simp [Value.oneCell']) (by decide) h63.out hby.out (by simpa using hbz.out) (wr.heap.size + 1) (by simp) ?_; intro g cp w3 hown1 hgrow hat hltg; have hB1 : Below w.heap.size w w3 := (hbel.alloc hbel.size _).grown hgrow (by simpa using hbz.out) (own_from hown))
          go_roundw
          case rel => exact ⟨k + 1, 0, L ++ [d], by omega, by go_num, rfl, HN.out, by rw [HM.out]; exact hown1, hB1⟩
          case measure => simp [intOf]; omega
        · have hs1 : (0 : Int) < (s : Int) := by omega
          clear bx
          go_wp2_with (at_builtin; refine wpList_append_lies _ rfl _ _ 63 rfl w.heap.size 25 i0 (.int .u64 0) 1 8 Tryd.underlying63 hi hz0 hz1 hz2 rfl (by decide) _ (j + k) _ rfl (hown.alloc _) ⟨wr.heap.size, 0, none⟩ 1 1 [.int .u64 d] rfl rfl (World.news_of_block (cs := #[.int .u64 d]) (t := 25) (fr := (0, 0)) (heap_alloc_new wr _)) (by simp [Value.oneCell']) (by decide) h63.out hby.out (by simpa using hbz.out) (wr.heap.size + 1) (by simp) ?_; intro g cp w3 hown1 hgrow hat hltg; have hB1 : Below w.heap.size w w3 := (hbel.alloc hbel.size _).grown hgrow (by simpa using hbz.out) (own_from hown); have hcx3 : w3.cell? ⟨b, off + k, none⟩ = some (.int .u64 x) := (hB1.cell (p := ⟨b, off + k, none⟩) HC.out.1).trans HC.out.2; have hbs3 : b < w3.heap.size := Nat.lt_of_lt_of_le HC.out.1 hB1.size)
          go_roundw
          case rel => exact ⟨k + 1, c, L ++ [d], by omega, by go_num, by go_num, HN.out, by rw [HM.out]; exact hown1, hB1⟩
          case measure => simp [intOf]; omega
      · obtain rfl : k = la := by omega
        have HE : Hid ((val 18446744073709551616 (L ++ [cv]) = ((a * 2 ^ n : Nat) : Int) ∧ Wd 18446744073709551616 (L ++ [cv])) ∧ (L ++ [cv]).length = j + k + 1) := ⟨Up2St.ending HX.out.2 (by rw [HJ.out.1, HJ.out.2]; exact hst), by simp [hst.len]⟩
        have HM : Hid ((L ++ [cv]).map (Value.int .u64) = L.map (Value.int .u64) ++ [.int .u64 cv]) := by show _ = _; rw [List.map_append]; rfl
        clear hst
        go_wp2_with (first
          | (at_builtin; refine wpList_append_lies _ rfl _ _ 63 rfl w.heap.size 25 i0 (.int .u64 0) 1 8 Tryd.underlying63 hi hz0 hz1 hz2 rfl (by decide) _ (j + k) _ rfl (hown.alloc _) ⟨wr.heap.size, 0, none⟩ 1 1 [.int .u64 cv] rfl rfl (World.news_of_block (cs := #[.int .u64 cv]) (t := 25) (fr := (0, 0)) (heap_alloc_new wr _)) (by simp [Value.oneCell']) (by decide) h63.out hby.out (by simpa using hbz.out) (wr.heap.size + 1) (by simp) ?_; intro g cp w3 hown1 hgrow hat hltg; have hB1 : Below w.heap.size w w3 := (hbel.alloc hbel.size _).grown hgrow (by simpa using hbz.out) (own_from hown); have hown2 : w3.ownsRow w.heap.size 25 1 (.slice (some ⟨g, 0, none⟩) (j + k + 1) cp) (j + k + 1) ((L ++ [cv]).map (Value.int .u64)) := (by rw [HM.out]; exact hown1))
          | (go_at_call 82; refine (ntrim_any (some ⟨g, 0, none⟩) (j + k + 1) cp (L ++ [cv]) _ (Own.ofRow HE.out.2 hown2).row (cap_of_owns hown2)).mono ?_; rintro e w4 ⟨hT, hw4⟩; replace hw4 := hw4.symm; subst hw4; have HT : Hid (Trimmed w3 .u64 (some ⟨g, 0, none⟩) (j + k + 1) cp (L ++ [cv]) e) := hT; obtain ⟨ao', n', cap', hn', rfl, hrest⟩ := hT))
        go_ret
        exact Trimmed.natOwn HT.out (Own.ofRow HE.out.2 hown2) HE.out.1.2 HE.out.1.1 hB1
end Go.Proofs.YtnniipekcbjloaaDoor
/- Walks: the page's Down2. -/
namespace Go.Proofs.YtnniipekcbjloaaDoor
open Go.RowKit
set_option linter.unusedVariables false
set_option linter.unusedSimpArgs false
/-- the digits of zs from j on, k of them, over P -/
structure Down2St (zs : List Int) (j k : Nat) (P : Int) (L : List Int) : Prop where
  len : L.length = k
  wd : Wd 18446744073709551616 L
  eq : val 18446744073709551616 L * P + dig zs j % P = V 18446744073709551616 zs j k + dig zs (j + k) % P * 18446744073709551616 ^ k
theorem Down2St.step {zs : List Int} {j k : Nat} {P : Int} {L : List Int} (h : Down2St zs j k P L) {d : Int} (hd : 0 ≤ d ∧ d < 18446744073709551616) (he : d * P + dig zs (j + k) % P = dig zs (j + k) + dig zs (j + k + 1) % P * 18446744073709551616) : Down2St zs j (k + 1) P (L ++ [d]) := by
  refine ⟨by simp [h.len], h.wd.append (Wd.one hd), ?_⟩
  have h1 := h.eq
  rw [val_snoc, h.len, V_succ, Int.pow_succ, show j + (k + 1) = j + k + 1 by omega]
  have e2 : 18446744073709551616 ^ k * (d * P + dig zs (j + k) % P) = 18446744073709551616 ^ k * (dig zs (j + k) + dig zs (j + k + 1) % P * 18446744073709551616) := by rw [he]
  grind
theorem down_num {a n : Nat} {r X : Int} (hj : n / 64 ≤ (mag a).length) (e : X * 2 ^ (n % 64) + r = val 18446744073709551616 ((mag a).drop (n / 64))) (r0 : 0 ≤ r) (r1 : r < 2 ^ (n % 64)) : X = ((a / 2 ^ n : Nat) : Int) := by
  have e2 := val_take_drop 18446744073709551616 (mag a) (n / 64) hj
  rw [mag_val] at e2
  have h3 := val_lt (q := 18446744073709551616) (by decide) ((mag_wd a).take (n / 64))
  have h4 := val_nonneg (q := 18446744073709551616) (by decide) ((mag_wd a).take (n / 64))
  rw [List.length_take, Nat.min_eq_left hj] at h3
  obtain ⟨D, hD⟩ : ∃ D, val 18446744073709551616 ((mag a).drop (n / 64)) = D := ⟨_, rfl⟩
  obtain ⟨T, hT⟩ : ∃ T, val 18446744073709551616 ((mag a).take (n / 64)) = T := ⟨_, rfl⟩
  rw [hD] at e e2; rw [hT] at e2 h3 h4
  obtain ⟨P, hP⟩ : ∃ P : Int, (18446744073709551616 : Int) ^ (n / 64) = P := ⟨_, rfl⟩
  obtain ⟨S, hS⟩ : ∃ S : Int, (2 : Int) ^ (n % 64) = S := ⟨_, rfl⟩
  have hPS : P * S = ((2 ^ n : Nat) : Int) := by
    rw [← hP, ← hS, show (18446744073709551616 : Int) = 2 ^ 64 from rfl, ← Int.pow_mul, ← Int.pow_add, Int.natCast_pow]
    congr 1; omega
  rw [hS] at e r1; rw [hP] at e2 h3
  have hP0 : 0 < P := by rw [← hP]; exact Int.pow_pos (by decide)
  have k1 : P * r + P ≤ P * S := by
    have : P * (r + 1) ≤ P * S := Int.mul_le_mul_of_nonneg_left (by omega) (by omega)
    rw [Int.mul_add, Int.mul_one] at this; exact this
  have k2 : 0 ≤ P * r := Int.mul_nonneg (by omega) r0
  have k3 : X * ((2 ^ n : Nat) : Int) + (P * r + T) = (a : Int) := by
    rw [e2, ← e, ← hPS]; grind
  exact (nat_div_of k3 (by omega) (by rw [← hPS]; omega)).1
theorem V_rest (q : Int) {L : List Int} {j n : Nat} (h : n = L.length - j) : V q L j n = val q (L.drop j) := by
  subst h; unfold V; rw [List.take_of_length_le (by simp)]
theorem two_mod {d t x o P R : Int} (hP : 0 < P) (hPR : P * R = 18446744073709551616) (ht : 0 ≤ t ∧ t < P) (he : d * P + t = o * 18446744073709551616 + x) : t = x % P := by
  have h1 : x = t + P * (d - o * R) := by rw [Int.mul_sub, Int.mul_left_comm P o R, hPR, Int.mul_comm P d]; omega
  rw [h1, Int.add_mul_emod_self_left, Int.emod_eq_of_lt ht.1 ht.2]
/-- one limb of a number shifted down -/
theorem down2_ex (x y : Int) (s : Nat) (hs : s < 64) (hx : 0 ≤ x ∧ x < 18446744073709551616) (hy : 0 ≤ y ∧ y < 18446744073709551616) :
    ∃ d : Int, bits .or .u64 (x / 2 ^ s) (IntKind.u64.wrap (y * 2 ^ (64 - s))) = d ∧ (0 ≤ d ∧ d < 18446744073709551616) ∧ d * 2 ^ s + x % 2 ^ s = x + y % 2 ^ s * 18446744073709551616 := by
  obtain ⟨P, R, hP, hR, hP0, hR0, hPR, hPi, hRi⟩ := pow_pair hs
  have hPR' : (P : Int) * (R : Int) = 18446744073709551616 := by rw [← Int.natCast_mul, hPR]; rfl
  have hPp : (0 : Int) < 2 ^ s := Int.pow_pos (by decide)
  obtain ⟨d0, ty, _, hw, _, ht, he⟩ := down_ex y s 0 hs hy ⟨Int.le_refl _, hPp⟩
  have hty : ty = y % 2 ^ s := two_mod (R := R) hPp (by rw [hPi]; exact hPR') ht he
  obtain ⟨d, t, hd, _, hdb, ht2, he2⟩ := down_ex x s ty hs hx ht
  have htx : t = x % 2 ^ s := two_mod (R := R) hPp (by rw [hPi]; exact hPR') ht2 he2
  refine ⟨d, by rw [hw]; exact hd, hdb, ?_⟩
  rw [← hty, ← htx]; omega
set_option maxRecDepth 100000 in
set_option maxHeartbeats 3000000 in
theorem down2_any (ao : Option Addr) (la ca n : Nat) (a : Nat) (w : World) (hx : RowAt w .u64 ao la ca (mag a)) (hl : la ≤ 4294967296) (hn : n < 9223372036854775807) :
    Calls Tryd.prog 95 #[.slice ao la ca, .int .i64 (n : Int)] w fun e w' => NewNat w w' e (a / 2 ^ n) := by
  obtain ⟨i0, hi, hz0, hz1, hz2⟩ := info_parts info64
  obtain ⟨B, hB⟩ : ∃ B : Int, rowBits la (dig (mag a) (la - 1)) = B := ⟨_, rfl⟩
  have hB0 : (a = 0 ∧ B = 0) ∨ ∃ l : Nat, B = l ∧ l ≤ 64 * la ∧ a < 2 ^ l ∧ (2 ^ (l - 1) ≤ a ∧ 1 ≤ l) := by
    by_cases h0 : 0 < a
    · obtain ⟨l, h1, h2, h3, h4, h5⟩ := row_bits h0 hx.hlen
      exact Or.inr ⟨l, hB ▸ h1, h3, h5, h4, h2⟩
    · refine Or.inl ⟨by omega, ?_⟩
      have : la = 0 := by
        by_cases h : 0 < la
        · exact absurd (mag_len_pos.1 (hx.hlen ▸ h)) h0
        · omega
      rw [← hB]; unfold rowBits; rw [if_pos this]
  have HX : Hid (RowAt w .u64 ao la ca (mag a) ∧ la = (mag a).length) := ⟨hx, hx.hlen⟩
  have HB : Hid (rowBits la (dig (mag a) (la - 1)) = B) := hB
  clear hx hB
  by_cases hge : B ≤ (n : Int)
  · have HZ : Hid (a / 2 ^ n = 0) := by
      show _ = _
      rcases hB0 with ⟨h, _⟩ | ⟨l, h1, _, h2, _⟩
      · rw [h, Nat.zero_div]
      · exact Nat.div_eq_of_lt (Nat.lt_of_lt_of_le h2 (Nat.pow_le_pow_right (by decide) (by omega)))
    clear hB0
    go_enter Tryd.func95, Tryd.ntmps95
    go_wp2_with (go_at_call 91; refine (nlen_any ao la ca (mag a) _ HX.out.1 (mag_wd a) hl).mono ?_; rintro e w1 ⟨rfl, hw1⟩; replace hw1 := hw1.symm; subst hw1; rw [HB.out])
    go_ret
    exact ⟨none, 0, 0, rfl, by rw [HZ.out]; exact Own.none_, Below.refl _ _⟩
  · have hdiv : (n : Int).tdiv 64 = ((n / 64 : Nat) : Int) := by rw [Int.tdiv_eq_ediv_of_nonneg (by omega)]; omega
    have hmod : (n : Int).tmod 64 = ((n % 64 : Nat) : Int) := by rw [Int.tmod_eq_emod_of_nonneg (by omega)]; omega
    have hjl : n / 64 < la := by
      rcases hB0 with ⟨_, h⟩ | ⟨l, h1, h2, _⟩ <;> omega
    obtain ⟨j, hj⟩ : ∃ j, n / 64 = j := ⟨_, rfl⟩
    obtain ⟨s, hs⟩ : ∃ s, n % 64 = s := ⟨_, rfl⟩
    have hs64 : s < 64 := by omega
    rw [hj] at hdiv hjl; rw [hs] at hmod
    have HJ : Hid (n / 64 = j ∧ n % 64 = s) := ⟨hj, hs⟩
    clear hj hs hB0
    go_enter Tryd.func95, Tryd.ntmps95
    go_wp2_with (go_at_call 91; refine (nlen_any ao la ca (mag a) _ HX.out.1 (mag_wd a) hl).mono ?_; rintro e w1 ⟨rfl, hw1⟩; replace hw1 := hw1.symm; subst hw1; rw [HB.out])
    go_loopw [6, 7] (fun v i wr => ∃ (k : Nat) (L : List Int), j + k ≤ la ∧ i = .int .i64 ((j + k : Nat) : Int) ∧ Down2St (mag a) j k (2 ^ s) L ∧ wr.ownsRow w.heap.size 25 1 v k (L.map (Value.int .u64)) ∧ Below w.heap.size w wr) (fun _ i _ => la - (intOf i).toNat)
    case atStart => exact ⟨0, [], by omega, rfl, ⟨rfl, Wd.nil _, by simp [val, V_zero]⟩, World.ownsRow_nil _ _ _ _, Below.refl _ _⟩
    case round =>
      obtain ⟨k, L, hk, rfl, hst, hown, hbel⟩ := hrel
      obtain ⟨m, hm⟩ : ∃ m, j + k = m := ⟨_, rfl⟩
      rw [hm]; rw [hm] at hk
      have HM0 : Hid (j + k = m) := hm
      have hkm : k ≤ m := by omega
      have h63 : Hid (k + 1 ≤ maxLen) := by show _ ≤ _; unfold maxLen; omega
      have hby : Hid ((k + 1) * 8 ≤ 140737488355328) := by show _ ≤ _; omega
      have hbz : Hid (w.heap.size ≤ wr.heap.size + 1) := by show _ ≤ _; have := hbel.size; omega
      have hP1 : (0 : Int) < 2 ^ s := Int.pow_pos (by decide)
      by_cases hlt : m < la
      · obtain ⟨b, off, rfl, hb, hc⟩ := HX.out.1.get (by omega)
        obtain ⟨x, hx⟩ : ∃ x, dig (mag a) m = x := ⟨_, rfl⟩
        have hcx : wr.cell? ⟨b, off + m, none⟩ = some (.int .u64 x) := hx ▸ (hbel.cell (p := ⟨b, off + m, none⟩) hb).trans (hc m hlt)
        have hbs : b < wr.heap.size := by have := hbel.size; omega
        have bx : 0 ≤ x ∧ x < 18446744073709551616 := hx ▸ (mag_wd a).dig (by decide) m
        have hq : 0 ≤ x / 2 ^ s ∧ x / 2 ^ s < 18446744073709551616 := ⟨Int.ediv_nonneg bx.1 (by omega), Int.lt_of_le_of_lt (Int.ediv_le_self _ bx.1) bx.2⟩
        by_cases hs0 : s = 0
        · have hs1 : ¬ (0 : Int) < (s : Int) := by omega
          obtain ⟨d, hd⟩ : ∃ d, x / 2 ^ s = d := ⟨_, rfl⟩
          have HN : Hid (Down2St (mag a) j (k + 1) (2 ^ s) (L ++ [d])) := hst.step (hd ▸ hq) (by
            rw [hm, hx, ← hd, hs0]; simp [Int.emod_one])
          clear hst hc hx bx hq hs0 hm hP1
          go_wp2_with (at_builtin; refine wpList_append_lies _ rfl _ _ 63 rfl w.heap.size 25 i0 (.int .u64 0) 1 8 Tryd.underlying63 hi hz0 hz1 hz2 rfl (by decide) _ k _ rfl (hown.alloc _) ⟨wr.heap.size, 0, none⟩ 1 1 [.int .u64 d] rfl rfl (World.news_of_block (cs := #[.int .u64 d]) (t := 25) (fr := (0, 0)) (heap_alloc_new wr _)) (by simp [Value.oneCell']) (by decide) h63.out hby.out (by simpa using hbz.out) (wr.heap.size + 1) (by simp) ?_; intro g cp w3 hown1 hgrow hat hltg; have hB1 : Below w.heap.size w w3 := (hbel.alloc hbel.size _).grown hgrow (by simpa using hbz.out) (own_from hown))
          go_roundw
          case rel => exact ⟨k + 1, L ++ [d], by have := HM0.out; omega, by have := HM0.out; go_num, HN.out, by rw [List.map_append]; exact hown1, hB1⟩
          case measure => simp [intOf]; omega
        · have hs1 : (0 : Int) < (s : Int) := by omega
          by_cases hlt2 : m + 1 < la
          · obtain ⟨y, hy⟩ : ∃ y, dig (mag a) (m + 1) = y := ⟨_, rfl⟩
            have hcy : wr.cell? ⟨b, off + (m + 1), none⟩ = some (.int .u64 y) := hy ▸ (hbel.cell (p := ⟨b, off + (m + 1), none⟩) hb).trans (hc (m + 1) hlt2)
            have bby : 0 ≤ y ∧ y < 18446744073709551616 := hy ▸ (mag_wd a).dig (by decide) (m + 1)
            obtain ⟨d, hd, hd1, he⟩ := down2_ex x y s hs64 bx bby
            have HN : Hid (Down2St (mag a) j (k + 1) (2 ^ s) (L ++ [d])) := hst.step hd1 (by rw [hm, hx, hy]; exact he)
            clear hst hc hx hy bx bby hq hs0 hm hd1 he hP1
            go_wp2_with (at_builtin; refine wpList_append_lies _ rfl _ _ 63 rfl w.heap.size 25 i0 (.int .u64 0) 1 8 Tryd.underlying63 hi hz0 hz1 hz2 rfl (by decide) _ k _ rfl (hown.alloc _) ⟨wr.heap.size, 0, none⟩ 1 1 [.int .u64 d] rfl rfl (World.news_of_block (cs := #[.int .u64 d]) (t := 25) (fr := (0, 0)) (heap_alloc_new wr _)) (by simp [Value.oneCell']) (by decide) h63.out hby.out (by simpa using hbz.out) (wr.heap.size + 1) (by simp) ?_; intro g cp w3 hown1 hgrow hat hltg; have hB1 : Below w.heap.size w w3 := (hbel.alloc hbel.size _).grown hgrow (by simpa using hbz.out) (own_from hown))
            go_roundw
            case rel => exact ⟨k + 1, L ++ [d], by have := HM0.out; omega, by have := HM0.out; go_num, HN.out, by rw [List.map_append]; exact hown1, hB1⟩
            case measure => simp [intOf]; omega
          · obtain ⟨d, hd⟩ : ∃ d, x / 2 ^ s = d := ⟨_, rfl⟩
            have HN : Hid (Down2St (mag a) j (k + 1) (2 ^ s) (L ++ [d])) := hst.step (hd ▸ hq) (by
              rw [hm, hx, ← hd, dig_over (zs := mag a) (k := m + 1) (by rw [← HX.out.2]; omega), Int.mul_comm, Int.mul_ediv_add_emod]; simp)
            clear hst hc hx bx hq hs0 hm hP1
            go_wp2_with (at_builtin; refine wpList_append_lies _ rfl _ _ 63 rfl w.heap.size 25 i0 (.int .u64 0) 1 8 Tryd.underlying63 hi hz0 hz1 hz2 rfl (by decide) _ k _ rfl (hown.alloc _) ⟨wr.heap.size, 0, none⟩ 1 1 [.int .u64 d] rfl rfl (World.news_of_block (cs := #[.int .u64 d]) (t := 25) (fr := (0, 0)) (heap_alloc_new wr _)) (by simp [Value.oneCell']) (by decide) h63.out hby.out (by simpa using hbz.out) (wr.heap.size + 1) (by simp) ?_; intro g cp w3 hown1 hgrow hat hltg; have hB1 : Below w.heap.size w w3 := (hbel.alloc hbel.size _).grown hgrow (by simpa using hbz.out) (own_from hown))
            go_roundw
            case rel => exact ⟨k + 1, L ++ [d], by have := HM0.out; omega, by have := HM0.out; go_num, HN.out, by rw [List.map_append]; exact hown1, hB1⟩
            case measure => simp [intOf]; omega
      · obtain rfl : m = la := by omega
        have HE : Hid (val 18446744073709551616 L = ((a / 2 ^ n : Nat) : Int) ∧ Wd 18446744073709551616 L ∧ L.length = k) := by
          refine ⟨?_, hst.wd, hst.len⟩
          have e := hst.eq
          rw [hm, dig_over (zs := mag a) (k := m) (by rw [← HX.out.2]; exact Nat.le_refl _), V_rest _ (by rw [← HX.out.2]; omega)] at e
          simp only [Int.zero_emod, Int.zero_mul, Int.add_zero] at e
          exact down_num (r := dig (mag a) j % 2 ^ s) (by rw [HJ.out.1, ← HX.out.2]; omega) (by rw [HJ.out.1, HJ.out.2]; exact e) (Int.emod_nonneg _ (by omega)) (by rw [HJ.out.2]; exact Int.emod_lt_of_pos _ hP1)
        obtain ⟨ao1, c1, hv, hrow⟩ := row_of_owns HE.out.2.2 hown
        subst hv
        have hcap := cap_of_owns hown
        have hOw := Own.ofRow HE.out.2.2 hown
        clear hst hm hP1
        go_wp2_with (go_at_call 82; refine (ntrim_any ao1 k c1 L _ hrow hcap).mono ?_; rintro e w4 ⟨hT, hw4⟩; replace hw4 := hw4.symm; subst hw4; have HT : Hid (Trimmed wr .u64 ao1 k c1 L e) := hT; obtain ⟨ao', n', cap', hn', rfl, hrest⟩ := hT)
        go_ret
        exact Trimmed.natOwn HT.out hOw HE.out.2.1 HE.out.1 hbel
end Go.Proofs.YtnniipekcbjloaaDoor
/- Walks: the page's Times, Zero. -/
namespace Go.Proofs.YtnniipekcbjloaaDoor
open Go.RowKit
set_option linter.unusedVariables false
set_option linter.unusedSimpArgs false
set_option maxRecDepth 100000 in
set_option maxHeartbeats 1000000 in
theorem rtimes_any (na nb : Bool) (ao bo : Option Addr) (la ca lb cb : Nat) (a b : Int) (w : World) (hx : IntAt w na ao la ca a) (hy : IntAt w nb bo lb cb b) (hl : la ≤ 1073741824) (hl' : lb ≤ 1073741824) :
    Calls Tryd.prog 81 #[.agg #[.bool na, .slice ao la ca], .agg #[.bool nb, .slice bo lb cb]] w fun e w' => NewInt w w' e (a * b) := by
  obtain ⟨W, hT⟩ := Two3.mk' w na nb ao bo la ca lb cb
  have hsz := hT.size
  have HV : Hid (a * b = sgn (na != nb) (a.natAbs * b.natAbs)) := sgn_mul hx.sg hy.sg
  have hRx := hx.later hT.below
  have hRy := hy.later hT.below
  clear hx hy
  have KS : Hid (∀ w' : World, Below (w.heap.size + 2) W w' → (Below (w.heap.size + 2) W w' ∧ w'.cell? ⟨w.heap.size, 0, none⟩ = some (.bool na) ∧ w'.cell? ⟨w.heap.size, 1, none⟩ = some (.slice ao la ca) ∧ w'.cell? ⟨w.heap.size + 1, 0, none⟩ = some (.bool nb) ∧ w'.cell? ⟨w.heap.size + 1, 1, none⟩ = some (.slice bo lb cb))) := fun w' h => ⟨h, (h.cell (p := ⟨w.heap.size, 0, none⟩) (by show w.heap.size < _; omega)).trans hT.a.1, (h.cell (p := ⟨w.heap.size, 1, none⟩) (by show w.heap.size < _; omega)).trans hT.a.2, (h.cell (p := ⟨w.heap.size + 1, 0, none⟩) (by show w.heap.size + 1 < _; omega)).trans hT.b.1, (h.cell (p := ⟨w.heap.size + 1, 1, none⟩) (by show w.heap.size + 1 < _; omega)).trans hT.b.2⟩
  have K1 : Hid (∀ w1 w2 : World, (Below (w.heap.size + 2) W w1 ∧ w1.cell? ⟨w.heap.size, 0, none⟩ = some (.bool na) ∧ w1.cell? ⟨w.heap.size, 1, none⟩ = some (.slice ao la ca) ∧ w1.cell? ⟨w.heap.size + 1, 0, none⟩ = some (.bool nb) ∧ w1.cell? ⟨w.heap.size + 1, 1, none⟩ = some (.slice bo lb cb)) → Below w1.heap.size w1 w2 → (Below (w.heap.size + 2) W w2 ∧ w2.cell? ⟨w.heap.size, 0, none⟩ = some (.bool na) ∧ w2.cell? ⟨w.heap.size, 1, none⟩ = some (.slice ao la ca) ∧ w2.cell? ⟨w.heap.size + 1, 0, none⟩ = some (.bool nb) ∧ w2.cell? ⟨w.heap.size + 1, 1, none⟩ = some (.slice bo lb cb))) := fun w1 w2 h hb => KS.out _ (h.1.trans (hb.mono (by have := h.1.size; omega)))
  have K2 : Hid (∀ w1 w2 : World, (Below (w.heap.size + 2) W w1 ∧ w1.cell? ⟨w.heap.size, 0, none⟩ = some (.bool na) ∧ w1.cell? ⟨w.heap.size, 1, none⟩ = some (.slice ao la ca) ∧ w1.cell? ⟨w.heap.size + 1, 0, none⟩ = some (.bool nb) ∧ w1.cell? ⟨w.heap.size + 1, 1, none⟩ = some (.slice bo lb cb)) → Below (w.heap.size + 2) w1 w2 → (Below (w.heap.size + 2) W w2 ∧ w2.cell? ⟨w.heap.size, 0, none⟩ = some (.bool na) ∧ w2.cell? ⟨w.heap.size, 1, none⟩ = some (.slice ao la ca) ∧ w2.cell? ⟨w.heap.size + 1, 0, none⟩ = some (.bool nb) ∧ w2.cell? ⟨w.heap.size + 1, 1, none⟩ = some (.slice bo lb cb))) := fun w1 w2 h hb => KS.out _ (h.1.trans hb)
  go_enter Tryd.func81, Tryd.ntmps81
  go_wp2
  rw [← hT.eq]
  go_region_held3 (fun w' => Below (w.heap.size + 2) W w' ∧ w'.cell? ⟨w.heap.size, 0, none⟩ = some (.bool na) ∧ w'.cell? ⟨w.heap.size, 1, none⟩ = some (.slice ao la ca) ∧ w'.cell? ⟨w.heap.size + 1, 0, none⟩ = some (.bool nb) ∧ w'.cell? ⟨w.heap.size + 1, 1, none⟩ = some (.slice bo lb cb))
    (first
      | exact KS.out _ (Below.refl _ _).drew
      | exact K1.out _ _ (by assumption) (by assumption)
      | exact K2.out _ _ (by assumption) (below_store (Below.refl _ _) (by omega) _ _))
    (first
      | (go_at_call 99; refine (ntimes_any ao bo la ca lb cb _ _ _ (hRx.row.later (Below.refl _ _).drew) (hRy.row.later (Below.refl _ _).drew) (by omega) (by omega)).mono ?_; rintro e w2 ⟨ao2, l2, c2, rfl, ho2, hb2⟩; have hlen2 : l2 ≤ 4294967296 := (by rw [ho2.row.hlen]; have q := mag_len_mul a.natAbs b.natAbs; rw [← hRx.row.hlen, ← hRy.row.hlen] at q; omega))
      | (go_at_call 66; refine (made_any (na != nb) ao2 l2 c2 _ (by omega)).mono ?_; rintro e w3 ⟨rfl, hb3⟩; obtain ⟨g5, g3, g4⟩ := hT.r.later (bnext (Below.refl _ _).drew (bnext hb2 hb3)) (by omega)))
  go_wp2
  have hN := NewInt.ret (w := w) ((ho2.later hb3).store (r := w.heap.size + 1 + 1) (by show _ < W.heap.size; omega) (.bool ((na != nb) && decide (0 < l2))) (.slice ao2 l2 c2)) (by show _ ≤ W.heap.size; omega) HV.out (below_store (bnext hT.below (bnext (Below.refl _ _).drew (bnext hb2 hb3))) (by omega) _ _)
  exact bodyPost_ret (v := .agg #[.bool ((na != nb) && decide (0 < l2)), .slice ao2 l2 c2]) (by simp [results, Tryd.results81, go_sem, g3, g4]) rfl hN
set_option maxRecDepth 100000 in
theorem rzero_any (neg : Bool) (ao : Option Addr) (len cap : Nat) (w : World) (c : Bool) (hc : ((len : Int) == 0) = c) :
    Calls Tryd.prog 39 #[.agg #[.bool neg, .slice ao len cap]] w fun e w' => e = .returned (.bool c) ∧ Below w.heap.size w w' := by
  go_enter Tryd.func39, Tryd.ntmps39
  go_wp2
  go_ret
  exact ⟨by rw [← hc]; rfl, (Below.refl _ _).alloc (Nat.le_refl _) _⟩
end Go.Proofs.YtnniipekcbjloaaDoor
/-
  Walks: an answer is written over (Words).
-/
namespace Go.Proofs.YtnniipekcbjloaaDoor
open Go.RowKit
set_option linter.unusedVariables false
set_option linter.unusedSimpArgs false
/-- a row that may be written, with its spare room -/
structure Spoil (w : World) (g off len cap : Nat) : Prop where
  cell : ∀ j, j < len → ∃ z, w.cell? ⟨g, off + j, none⟩ = some (.int .u64 z)
  room : ∀ j, j < cap → (w.cell? ⟨g, off + j, none⟩).isSome = true
  soft : ∀ j, w.frozen? ⟨g, j, none⟩ = false
  lt : g < w.heap.size
theorem Spoil.ofOwn {B : Nat} {w : World} {t : TypeId} {g off len cap : Nat} {zs : List Int} (h : Own B w .u64 t (some ⟨g, off, none⟩) len cap zs) : Spoil w g off len cap ∧ B ≤ g ∧ len ≤ cap := by
  rcases h with ⟨h, _⟩ | ⟨g', off', cur, he, hB, hh, hc, hl, _, hz⟩
  · cases h
  · cases he
    have hlt := heap_lt hh
    refine ⟨⟨fun j hj => ⟨dig zs j, ?_⟩, fun j hj => ?_, fun j => ?_, hlt⟩, hB, hl⟩
    · simp only [World.cell?, hh]; exact hz j hj
    · simp only [World.cell?, hh]; simp; omega
    · simp [World.frozen?, hh]
theorem Spoil.later {w w' : World} {g off len cap : Nat} (h : Spoil w g off len cap) (hb : Below w.heap.size w w') : Spoil w' g off len cap :=
  ⟨fun j hj => by obtain ⟨z, hz⟩ := h.cell j hj; exact ⟨z, (hb.cell (p := ⟨g, off + j, none⟩) h.lt).trans hz⟩,
   fun j hj => by rw [hb.cell (p := ⟨g, off + j, none⟩) h.lt]; exact h.room j hj,
   fun j => by rw [hb.frozen (p := ⟨g, j, none⟩) h.lt]; exact h.soft j, Nat.lt_of_lt_of_le h.lt hb.size⟩
theorem Spoil.set {w : World} {g off len cap k : Nat} (h : Spoil w g off len cap) (hk : k < len) (z : Int) : Spoil (w.setCell ⟨g, off + k, none⟩ (.int .u64 z)) g off len cap := by
  have hs : (w.cell? ⟨g, off + k, none⟩).isSome = true := by obtain ⟨y, hy⟩ := h.cell k hk; rw [hy]; rfl
  refine ⟨fun j hj => ?_, fun j hj => ?_, fun j => ?_, by simpa using h.lt⟩
  · by_cases e : j = k
    · subst e; obtain ⟨y, hy⟩ := h.cell j hj; exact ⟨z, by simp [go_sem, hy]⟩
    · obtain ⟨y, hy⟩ := h.cell j hj; obtain ⟨y', hy'⟩ := h.cell k hk; exact ⟨y, by simp [go_sem, hy, hy', e]⟩
  · by_cases e : j = k
    · subst e; obtain ⟨y, hy⟩ := h.cell j hk; simp [go_sem, hy]
    · have := h.room j hj; obtain ⟨y', hy'⟩ := h.cell k hk; simpa [go_sem, hy', e] using this
  · have := h.soft j; simpa [go_sem] using this
/-- of what was there all stays, but for the slice's own block -/
structure Stay (ao : Option Addr) (w w' : World) : Prop where
  size : w.heap.size ≤ w'.heap.size
  block : ∀ k, k < w.heap.size → (∀ p : Addr, ao = some p → p.block ≠ k) → w'.heap[k]? = w.heap[k]?
theorem Stay.refl (ao : Option Addr) (w : World) : Stay ao w w := ⟨Nat.le_refl _, fun _ _ _ => rfl⟩
theorem Stay.set {g off : Nat} {w w' : World} (h : Stay (some ⟨g, off, none⟩) w w') (j : Nat) (v : Value) : Stay (some ⟨g, off, none⟩) w (w'.setCell ⟨g, j, none⟩ v) :=
  ⟨by simpa [World.setCell] using h.size, fun k hk hp => by rw [Below.heap_setCell w' ⟨g, j, none⟩ v k (fun e => hp _ rfl e.symm)]; exact h.block k hk hp⟩
theorem Stay.next {ao : Option Addr} {w w' w2 : World} (h : Stay ao w w') (hb : Below w'.heap.size w' w2) : Stay ao w w2 :=
  ⟨Nat.le_trans h.size hb.size, fun k hk hp => (hb.block k (Nat.lt_of_lt_of_le hk h.size)).trans (h.block k hk hp)⟩
theorem Stay.after {ao : Option Addr} {w w' w2 : World} (hb : Below w.heap.size w w') (h : Stay ao w' w2) : Stay ao w w2 :=
  ⟨Nat.le_trans hb.size h.size, fun k hk hp => (h.block k (Nat.lt_of_lt_of_le hk hb.size) hp).trans (hb.block k hk)⟩
theorem Stay.cell {ao : Option Addr} {w w' : World} (h : Stay ao w w') {r j : Nat} (hr : r < w.heap.size) (hp : ∀ p : Addr, ao = some p → p.block ≠ r) : w'.cell? ⟨r, j, none⟩ = w.cell? ⟨r, j, none⟩ := by
  simp only [World.cell?, h.block r hr hp]
theorem Stay.frozen {ao : Option Addr} {w w' : World} (h : Stay ao w w') {r j : Nat} (hr : r < w.heap.size) (hp : ∀ p : Addr, ao = some p → p.block ≠ r) : w'.frozen? ⟨r, j, none⟩ = w.frozen? ⟨r, j, none⟩ := by
  simp only [World.frozen?, h.block r hr hp]
theorem below_cells {B g o : Nat} {w w' : World} {v : Value} (h : Below B w w') (hg : B ≤ g) : Below B w (w'.setCells g o [v]) := h.setCell (p := ⟨g, o, none⟩) hg v
theorem Spoil.olds {w : World} {g off len cap : Nat} (h : Spoil w g off len cap) : ∃ olds : List Value, olds.length = len * 1 ∧ ∀ j u, olds[j]? = some u → w.cell? ⟨g, off + j, none⟩ = some u := by
  refine ⟨(List.range len).map fun j => (w.cell? ⟨g, off + j, none⟩).getD undef, by simp, fun j u hj => ?_⟩
  rw [List.getElem?_map] at hj
  by_cases hl : j < len
  · rw [List.getElem?_range hl] at hj
    obtain ⟨z, hz⟩ := h.cell j hl
    simp only [Option.map_some, hz, Option.getD_some, Option.some.injEq] at hj
    rw [hz, hj]
  · rw [List.getElem?_eq_none (by simpa using hl)] at hj
    cases hj
set_option maxRecDepth 100000 in
set_option maxHeartbeats 2000000 in
theorem words_any (B : Nat) (ao : Option Addr) (len cap : Nat) (zs : List Int) (w : World) (ho : Own B w .u64 25 ao len cap zs) (hB : B ≤ w.heap.size) (hl : len ≤ 8589934592) :
    Calls Tryd.prog 51 #[.slice ao len cap] w fun e w' => e = .returned (.tuple #[]) ∧ Below B w w' ∧ Stay ao w w' := by
  obtain ⟨i0, hi, hz0, hz1, hz2⟩ := info_parts info64
  have h63 : Hid (len + 1 ≤ maxLen) := by show _ ≤ _; unfold maxLen; omega
  have hby : Hid ((len + 1) * 8 ≤ 140737488355328) := by show _ ≤ _; omega
  have HO : Hid (Own B w .u64 25 ao len cap zs) := ho
  by_cases hao : ao = none
  · subst hao
    obtain ⟨rfl, rfl⟩ : len = 0 ∧ cap = 0 := by
      rcases ho with ⟨_, h1, h2, _⟩ | ⟨g', off', cur, he, _⟩
      · exact ⟨h1, h2⟩
      · cases he
    have hbA : Below B w (w.alloc (.cells #[.int .u64 7] 25)) := (Below.refl B w).alloc hB _
    clear ho
    go_enter Tryd.func51, Tryd.ntmps51
    go_wp2
    go_loopw [2] (fun i wr => i = .int .i64 0 ∧ wr = w) (fun i _ => 0)
    case atStart => exact ⟨rfl, rfl⟩
    case round =>
      obtain ⟨rfl, rfl⟩ := hrel
      go_wp2_with (at_builtin; refine wpList_append_grows _ rfl _ _ 23 rfl 25 i0 (.int .u64 0) 1 8 Tryd.underlying23 hi hz0 hz1 hz2 rfl (by decide) none 0 0 [] rfl (fun _ => ⟨rfl, rfl⟩) rfl (fun b h => by cases h) ⟨wr.heap.size, 0, none⟩ 1 1 [.int .u64 7] rfl rfl (World.news_of_block (cs := #[.int .u64 7]) (t := 25) (fr := (0, 0)) (heap_alloc_new wr _)) (by simp [Value.oneCell']) (by decide) h63.out hby.out ?_; intro v' w' hown hgrow)
      go_end0
      exact ⟨rfl, hbA.trans ((grown_below hgrow).mono (Nat.le_trans hB hbA.size)), ((Stay.refl _ _).next ((Below.refl _ _).alloc (Nat.le_refl _) _)).next (grown_below hgrow)⟩
  · obtain ⟨⟨g, off, sp⟩, rfl⟩ : ∃ x, ao = some x := Option.ne_none_iff_exists'.1 hao
    obtain rfl : sp = none := by
      rcases ho with ⟨h, _⟩ | ⟨g', off', cur, he, _⟩
      · cases h
      · cases he; rfl
    obtain ⟨hsp, hBg, hlc⟩ := Spoil.ofOwn ho
    have HSP : Hid (Spoil w g off len cap) := hsp
    clear ho hsp hao
    go_enter Tryd.func51, Tryd.ntmps51
    go_wp2
    go_loopw [2] (fun i wr => ∃ k : Nat, k ≤ len ∧ i = .int .i64 k ∧ Spoil wr g off len cap ∧ Below B w wr ∧ Stay (some ⟨g, off, none⟩) w wr) (fun i _ => len - (intOf i).toNat)
    case atStart => exact ⟨0, Nat.zero_le _, rfl, HSP.out, Below.refl _ _, Stay.refl _ _⟩
    case round =>
      obtain ⟨k, hk, rfl, hsp, hbel, hsy⟩ := hrel
      have HSY : Hid (Stay (some ⟨g, off, none⟩) w wr) := hsy
      clear hsy
      have HS : Hid (Spoil wr g off len cap) := hsp
      have hgl := hsp.lt
      by_cases hlt : k < len
      · obtain ⟨z, hz⟩ := hsp.cell k hlt
        have hfz := hsp.soft (off + k)
        clear hsp
        go_wp2
        go_roundw
        case rel => exact ⟨k + 1, by omega, by go_num, HS.out.set hlt _, hbel.setCell (p := ⟨g, off + k, none⟩) hBg _, HSY.out.set _ _⟩
        case measure => simp [intOf]; omega
      · obtain rfl : k = len := by omega
        have hA := HS.out.later ((Below.refl wr.heap.size wr).alloc (Nat.le_refl _) (.cells #[.int .u64 7] 25))
        have hbA : Below B w (wr.alloc (.cells #[.int .u64 7] 25)) := hbel.alloc (Nat.le_trans hB hbel.size) _
        obtain ⟨olds, hol⟩ := hA.olds
        have HL : Hid (olds.length = k * 1 ∧ ∀ j u, olds[j]? = some u → (wr.alloc (.cells #[.int .u64 7] 25)).cell? ⟨g, off + j, none⟩ = some u) := hol
        have HP : Hid (k + 1 ≤ cap → ∀ j, j < [Value.int .u64 7].length → ((wr.alloc (.cells #[.int .u64 7] 25)).cell? ⟨g, off + k * 1 + j, none⟩).isSome = true ∧ (wr.alloc (.cells #[.int .u64 7] 25)).frozen? ⟨g, off + k * 1 + j, none⟩ = false) := fun h j hj => by
          obtain rfl : j = 0 := by simpa using hj
          exact ⟨by simpa using hA.room k (by omega), hA.soft _⟩
        clear hsp hol hA
        by_cases hr : k + 1 ≤ cap
        · go_wp2_with (at_builtin; refine wpList_append_arg _ rfl _ _ 23 rfl 25 i0 (.int .u64 0) 1 8 Tryd.underlying23 hi hz0 hz1 hz2 rfl (by decide) g off k cap olds rfl HL.out.1 HL.out.2 ⟨wr.heap.size, 0, none⟩ 1 1 [.int .u64 7] rfl rfl (World.news_of_block (cs := #[.int .u64 7]) (t := 25) (fr := (0, 0)) (heap_alloc_new wr _)) (by simp [Value.oneCell']) HP.out h63.out hby.out (fun _ => ?_) (fun h => absurd h (by omega)))
          go_end0
          exact ⟨rfl, below_cells hbA hBg, (HSY.out.next ((Below.refl _ _).alloc (Nat.le_refl _) _)).set _ _⟩
        · go_wp2_with (at_builtin; refine wpList_append_arg _ rfl _ _ 23 rfl 25 i0 (.int .u64 0) 1 8 Tryd.underlying23 hi hz0 hz1 hz2 rfl (by decide) g off k cap olds rfl HL.out.1 HL.out.2 ⟨wr.heap.size, 0, none⟩ 1 1 [.int .u64 7] rfl rfl (World.news_of_block (cs := #[.int .u64 7]) (t := 25) (fr := (0, 0)) (heap_alloc_new wr _)) (by simp [Value.oneCell']) HP.out h63.out hby.out (fun h => absurd h hr) (fun _ => ?_); intro v' w' hown hgrow)
          go_end0
          exact ⟨rfl, hbA.trans ((grown_below hgrow).mono (Nat.le_trans hB hbA.size)), (HSY.out.next ((Below.refl _ _).alloc (Nat.le_refl _) _)).next (grown_below hgrow)⟩
end Go.Proofs.YtnniipekcbjloaaDoor
