/-
  Walks: divideLong.
-/
import Derived.Test.YtafohkcbonlgkaaDoorEC
namespace Go.Proofs.YtafohkcbonlgkaaDoor
open Go.RowKit
set_option linter.unusedVariables false
set_option linter.unusedSimpArgs false

/-- two new numbers come back -/
def TwoNat (w w' : World) (e : Ending) (x y : Nat) : Prop :=
  ∃ ao la ca bo lb cb, e = .returned (.tuple #[.slice ao la ca, .slice bo lb cb]) ∧ Own w.heap.size w' .u64 67 ao la ca (mag x) ∧ Own w.heap.size w' .u64 67 bo lb cb (mag y) ∧ Below w.heap.size w w'

/-- a number's top limb, shifted up till its top bit is set -/
theorem lead_ex (z : Int) (h0 : 0 < z) (h1 : z < 18446744073709551616) : ∃ s : Nat, 64 - (Lib.bitLen z.toNat : Int) = (s : Int) ∧ s < 64 ∧ 9223372036854775808 ≤ z * 2 ^ s ∧ (z + 1) * 2 ^ s ≤ 18446744073709551616 := by
  obtain ⟨z, rfl⟩ := Int.eq_ofNat_of_zero_le (Int.le_of_lt h0)
  obtain ⟨b1, b2, b3⟩ := bitLen_bounds (y := z) (by omega) (by omega)
  have b4 : Lib.bitLen z ≤ 64 := Lib.bitLen_le z 64 (by omega) (by omega)
  obtain ⟨l, hl⟩ : ∃ l, Lib.bitLen z = l := ⟨_, rfl⟩
  rw [hl] at b1 b2 b3 b4
  have e1 : 2 ^ (l - 1) * 2 ^ (64 - l) = 9223372036854775808 := by rw [← Nat.pow_add, show l - 1 + (64 - l) = 63 by omega]
  have e2 : 2 ^ l * 2 ^ (64 - l) = 18446744073709551616 := by rw [← Nat.pow_add, show l + (64 - l) = 64 by omega]
  have f1 := Nat.mul_le_mul_right (2 ^ (64 - l)) b2
  have f2 := Nat.mul_le_mul_right (2 ^ (64 - l)) (show z + 1 ≤ 2 ^ l from b3)
  rw [e1] at f1; rw [e2] at f2
  refine ⟨64 - l, by rw [Int.toNat_natCast, hl]; omega, by omega, ?_, ?_⟩
  · have : ((z * 2 ^ (64 - l) : Nat) : Int) = (z : Int) * 2 ^ (64 - l) := by rw [Int.natCast_mul, Int.natCast_pow]; rfl
    rw [← this]; omega
  · have : (((z + 1) * 2 ^ (64 - l) : Nat) : Int) = ((z : Int) + 1) * 2 ^ (64 - l) := by rw [Int.natCast_mul, Int.natCast_pow]; rfl
    rw [← this]; omega

theorem below_less {B B' : Nat} {w w' : World} (h : Below B w w') (hB : B' ≤ B) : Below B' w w' := ⟨h.os, h.tape, h.output, h.size, fun k hk => h.block k (by omega)⟩
theorem divlong_a {w w2 w3 : World} {g j n : Nat} {v : Int} {L1 : List Int} (hb : Blk w2 g .u64 67 L1) (hB : Below g w w2)
    (h : w3.ownsRow 0 67 1 (.slice (some ⟨(w2.setCell ⟨g, j, none⟩ (.int .u64 v)).heap.size, 0, none⟩) n n) n (madeCells (Value.int .u64 0).cells (n * 1)).toList) (hg : (w2.setCell ⟨g, j, none⟩ (.int .u64 v)).grownBy w3 none) :
    Hid (Blk w3 g .u64 67 (L1.set j v) ∧ Blk w3 w2.heap.size .u64 67 (List.replicate n 0) ∧ Below g w w3) := by
  have h1 := made_blk h
  have h2 := grown_below hg
  have h3 : Touch g w2 (w2.setCell ⟨g, j, none⟩ (.int .u64 v)) := (Touch.refl _ _).set _ _
  have h4 := hb.lt
  refine ⟨(hb.set j v).all h2, by rw [h3.size] at h1; exact h1, (hB.trans (h3.below (Nat.le_refl _))).trans (below_less h2 (by rw [h3.size]; omega))⟩
theorem divlong_b {w w' : World} {g g' : Nat} {L : List Int} (hb : Blk w g .u64 67 L) (ht : Touch g' w w') (hne : g ≠ g') : Blk w' g .u64 67 L := by
  unfold Blk at *; rw [ht.block g hne]; exact hb

theorem takeOut_len (g off cap l : Nat) (bo : Option Addr) (m cb : Nat) (hl : l = m + 2 + 1) (L ys : List Int) (w : World) (hb : Blk w g .u64 67 L) (hW : Wd 18446744073709551616 L) (hn : off + (m + 2 + 1) ≤ L.length) (hnc : m + 2 + 1 ≤ cap) (hcap : cap ≤ 4611686018427387904)
    (hy : RowAt w .u64 bo (m + 2) cb ys) (hyW : Wd 18446744073709551616 ys) (hap : Apart bo (m + 2) g off (m + 2 + 1)) (htop : 9223372036854775808 ≤ dig ys (m + 1)) (hlt : V 18446744073709551616 L off (m + 2 + 1) < val 18446744073709551616 ys * 18446744073709551616) :
    Calls Tryd.prog 105 #[.slice (some ⟨g, off, none⟩) l cap, .slice bo (m + 2 : Nat) cb] w fun e w' => TakenOut w w' e g off (m + 2) L ys := by
  subst hl
  exact takeOut_any g off cap bo m cb L ys w hb hW hn hnc hcap hy hyW hap htop hlt
theorem trim_own {B : Nat} {w : World} {ao ao' : Option Addr} {n k cap cap' : Nat} {L : List Int} {N : Nat} (hk : k ≤ n) (h : RowAt w .u64 ao' k cap' (L.take k) ∧ Can (L.take k) ∧ (∀ q, val q (L.take k) = val q L) ∧ (ao' = ao ∧ cap' = cap ∨ ao' = none ∧ k = 0)) (ho : Own B w .u64 67 ao n cap L) (hW : Wd 18446744073709551616 L) (hv : val 18446744073709551616 L = N) : Own B w .u64 67 ao' k cap' (mag N) := by
  obtain ⟨hr, hc, hval, hor⟩ := h
  have hm : mag N = L.take k := mag_of (hW.take k) hc (by rw [hval, hv])
  rw [hm]
  rcases hor with ⟨rfl, rfl⟩ | ⟨rfl, rfl⟩
  · exact ho.take hk
  · exact Or.inl ⟨rfl, rfl, hr.hnil rfl, by simp⟩
theorem divlong_end {a b n m nu : Nat} {P r : Int} {Lu Lq L2 L3 L0 : List Int} (h : DivSt 18446744073709551616 (val 18446744073709551616 L2) (P * (a : Int)) (n + 2) m 0 nu Lu Lq) (hM : val 18446744073709551616 L2 = P * (b : Int)) (hP : 0 < P) (hl0 : L0.length = n + 2)
    (hq : QuoSt 18446744073709551616 L0 (Lu.take (n + 2)) P 0 (n + 2) 0 r L3) : val 18446744073709551616 Lq = ((a / b : Nat) : Int) ∧ val 18446744073709551616 L3 = ((a % b : Nat) : Int) := by
  have e1 := h.eq
  have e2 := h.lt
  have e3 := hq.eq
  rw [Nat.sub_zero, Nat.zero_add, Int.pow_zero, Int.one_mul, V_all _ h.lq.symm, hM] at e1
  rw [Nat.zero_add, Int.pow_zero, Int.mul_one, hM] at e2
  have e4 : V 18446744073709551616 (Lu.take (n + 2)) 0 (n + 2) = V 18446744073709551616 Lu 0 (n + 2) := V_congr fun j hj => by rw [dig_take (by omega)]
  rw [Nat.sub_zero, Nat.zero_add, V_all _ (by rw [hq.len, hl0]), e4] at e3
  have h0 := val_nonneg (q := 18446744073709551616) (by decide) hq.wd
  have e5 := div_last hP e1 e3 hq.r0 hq.r1 e2 h0
  exact nat_div_of e5.1 h0 e5.2

set_option maxRecDepth 100000 in
set_option maxHeartbeats 4000000 in
theorem divideLong_any (ao bo : Option Addr) (m ca n cb : Nat) (a b : Nat) (w : World) (hx : RowAt w .u64 ao (n + 1 + m) ca (mag a)) (hy : RowAt w .u64 bo (n + 2) cb (mag b)) (hl : n + 1 + m ≤ 4294967296) (hm : 1 ≤ m) :
    Calls Tryd.prog 88 #[.slice ao (n + 1 + m : Nat) ca, .slice bo (n + 2 : Nat) cb] w fun e w' => TwoNat w w' e (a / b) (a % b) := by
  obtain ⟨i0, hi, hz0, hz1, hz2⟩ := info_parts info64
  obtain ⟨b', o', rfl, hb', hc'⟩ := hy.get (by omega)
  have p1 := hc' (n + 2 - 1) (by omega)
  rw [show n + 2 - 1 = n + 1 by omega] at p1
  have hyl := hy.hlen
  have hne : mag b ≠ [] := fun e => by rw [e] at hyl; simp at hyl
  obtain ⟨z, hz⟩ : ∃ z, dig (mag b) (n + 1) = z := ⟨_, rfl⟩
  have hzb := (mag_wd b).dig (by decide) (n + 1)
  have hz1' : z ≠ 0 := by
    have h1 := mag_can b
    rw [← hz]
    obtain ⟨r, t, ht⟩ := snoc_of hne
    rw [ht] at h1 hyl ⊢
    have : n + 1 = r.length := by simp at hyl; omega
    rw [this]; simp [dig]; exact can_snoc.1 h1
  rw [hz] at p1 hzb
  obtain ⟨s, hs, hs64, hs1, hs2⟩ := lead_ex z (by omega) hzb.2
  have hcon := leading_any z w hzb.1 (by omega)
  rw [hs] at hcon
  have HX : Hid (RowAt w .u64 ao (n + 1 + m) ca (mag a) ∧ RowAt w .u64 (some ⟨b', o', none⟩) (n + 2) cb (mag b)) := ⟨hx, hy⟩
  have HZ : Hid (dig (mag b) (n + 1) = z ∧ 9223372036854775808 ≤ z * 2 ^ s ∧ (z + 1) * 2 ^ s ≤ 18446744073709551616 ∧ mag b ≠ []) := ⟨hz, hs1, hs2, hne⟩
  have b1 : Hid (i0.bytes * (n + 1 + m + 1) ≤ 281474976710656) := by show _ ≤ _; rw [hz2]; omega
  have b2 : Hid (n + 1 + m + 1 ≤ maxLen) := by show _ ≤ _; unfold maxLen; omega
  have b3 : Hid (Wd 18446744073709551616 (List.replicate (n + 1 + m + 1) 0)) := wd_zeros (by decide) _
  have b4 : Hid (i0.bytes * (n + 2) ≤ 281474976710656) := by show _ ≤ _; rw [hz2]; omega
  have b5 : Hid (n + 2 ≤ maxLen) := by show _ ≤ _; unfold maxLen; omega
  have b6 : Hid (Wd 18446744073709551616 (List.replicate (n + 2) 0)) := wd_zeros (by decide) _
  have b7 : Hid (i0.bytes * m ≤ 281474976710656) := by show _ ≤ _; rw [hz2]; omega
  have b8 : Hid (m ≤ maxLen) := by show _ ≤ _; unfold maxLen; omega
  have b9 : Hid (Wd 18446744073709551616 (List.replicate m 0)) := wd_zeros (by decide) _
  clear hx hy hc' hyl hne hz hs hs1 hs2 hz1' hzb
  go_enter Tryd.func88, Tryd.ntmps88
  go_wp2_with (first
    | (go_at_call 103; refine hcon.mono ?_; rintro e w0 ⟨rfl, hw0⟩; replace hw0 := hw0.symm; subst hw0)
    | (at_make; refine wpList_make_full _ rfl (.tmp 22) (.tmp 22) 23 rfl 0 67 i0 (.int .u64 0) 1 Tryd.underlying23 hi hz0 hz1 .i64 .i64 _ _ (n + 1 + m + 1) rfl rfl (by omega) (by omega) b1.out b2.out (Nat.zero_le _) ?_; intro w1 hown1 hgrow1)
    | (go_at_call 104; refine (upBits_any w.heap.size 0 (n + 1 + m + 1) (n + 1 + m + 1) ao (n + 1 + m) ca (List.replicate (n + 1 + m + 1) 0) (mag a) s w1 hs64 (made_blk hown1) b3.out (by simp) (Nat.le_refl _) (by omega) (HX.out.1.later (grown_below hgrow1)) (mag_wd _) (by omega) (apart_new HX.out.1 (Nat.le_refl _))).mono ?_; rintro e w2 ⟨c1, L1, rfl, hb1, hu1, ht1⟩; have HU : Hid (UpSt 18446744073709551616 (List.replicate (n + 1 + m + 1) 0) (mag a) (2 ^ s) 0 (n + 1 + m) c1 L1 ∧ Blk w2 w.heap.size .u64 67 L1 ∧ Below w.heap.size w w2) := ⟨hu1, hb1, (grown_below hgrow1).trans (ht1.below (Nat.le_refl _))⟩; have hcz := hb1.cell (j := n + 1 + m) (by have := hu1.len; simp at this; omega); have hfz := hb1.frozen (n + 1 + m); have hgs : w.heap.size < w2.heap.size := hb1.lt; clear hb1 hu1 ht1 hown1 hgrow1)
    | (at_make; refine wpList_make_full _ rfl (.tmp 33) (.tmp 33) 23 rfl 0 67 i0 (.int .u64 0) 1 Tryd.underlying23 hi hz0 hz1 .i64 .i64 _ _ (n + 2) rfl rfl (by omega) (by omega) b4.out b5.out (Nat.zero_le _) ?_; intro w3 hown3 hgrow3; have HA := divlong_a HU.out.2.1 HU.out.2.2 hown3 hgrow3; clear hown3 hgrow3; try simp only [World.size_setCell] at HA)
    | (go_at_call 104; go_loud (refine (upBits_any w2.heap.size 0 (n + 2) (n + 2) (some ⟨b', o', none⟩) (n + 2) cb (List.replicate (n + 2) 0) (mag b) s w3 hs64 HA.out.2.1 b6.out (by simp) (Nat.le_refl _) (by omega) (HX.out.2.later HA.out.2.2) (mag_wd _) (Nat.le_refl _) (apart_new HX.out.2 (by omega))).mono ?_; rintro e w4 ⟨c2, L2, rfl, hb2, hu2, ht2⟩; have HB : Hid (UpSt 18446744073709551616 (List.replicate (n + 2) 0) (mag b) (2 ^ s) 0 (n + 2) c2 L2 ∧ Blk w4 w2.heap.size .u64 67 L2 ∧ Blk w4 w.heap.size .u64 67 (L1.set (n + 1 + m) c1) ∧ Below w.heap.size w w4 ∧ w2.heap.size < w4.heap.size) := ⟨hu2, hb2, divlong_b HA.out.1 ht2 (by omega), HA.out.2.2.trans (ht2.below (by omega)), hb2.lt⟩; clear hb2 hu2 ht2))
    | (at_make; refine wpList_make_full _ rfl (.tmp 44) (.tmp 44) 24 rfl 0 67 i0 (.int .u64 0) 1 Tryd.underlying24 hi hz0 hz1 .i64 .i64 _ _ m rfl rfl (by omega) (by omega) b7.out b8.out (Nat.zero_le _) ?_; intro w5 hown5 hgrow5; have HC : Hid (Blk w5 w.heap.size .u64 67 (L1.set (n + 1 + m) c1) ∧ Blk w5 w2.heap.size .u64 67 L2 ∧ Blk w5 w4.heap.size .u64 67 (List.replicate m 0) ∧ Below w.heap.size w w5) := ⟨HB.out.2.2.1.all (grown_below hgrow5), HB.out.2.1.all (grown_below hgrow5), made_blk hown5, HB.out.2.2.2.1.trans (below_less (grown_below hgrow5) (by have := HB.out.2.2.2.2; omega))⟩; have hg24 := HB.out.2.2.2.2; clear hown5 hgrow5))
  have HU1 := HU.out.1
  have HB1 := HB.out.1
  have hlb : n + 1 + 1 = (mag b).length := HX.out.2.hlen
  have hla : n + 1 + m = (mag a).length := HX.out.1.hlen
  have hP : (0 : Int) < 2 ^ s := Int.pow_pos (by decide)
  have hPq : (2 : Int) ^ s < 18446744073709551616 := by
    obtain ⟨P, R, _, _, _, hR0, hPR, hPi, _⟩ := pow_pair hs64
    rw [hPi]
    have h1 : z + 1 ≤ 1 ∨ 1 ≤ z := by omega
    have h2 : 9223372036854775808 ≤ z * P := hPi ▸ HZ.out.2.1
    have h3 : (z + 1) * P ≤ 18446744073709551616 := hPi ▸ HZ.out.2.2.1
    rw [Int.add_mul] at h3
    omega
  have hlL1 : L1.length = n + 1 + m + 1 := by have := HU1.len; simpa using this
  have hlL2 : L2.length = n + 2 := by have := HB1.len; simpa using this
  have hnt := norm_top hlb (mag_wd b) HZ.out.1 HB1.wd hP HZ.out.2.1 HZ.out.2.2.1 HB1.c0 (by have := HB1.eq; rw [List.take_of_length_le (by omega)] at this; exact this)
  have hM : val 18446744073709551616 L2 = 2 ^ s * (b : Int) := by
    have := HB1.eq
    rw [hnt.1, List.take_of_length_le (by omega), mag_val] at this
    rw [← V_all _ (hlL2.symm)]; omega
  have hX : V 18446744073709551616 (L1.set (n + 1 + m) c1) 0 (m + (n + 2)) = 2 ^ s * (a : Int) := by
    have e := HU1.eq
    rw [List.take_of_length_le (by omega), mag_val] at e
    rw [show m + (n + 2) = (n + 1 + m) + 1 by omega, V_succ, Nat.zero_add, dig_set _ (by omega), if_pos rfl, ← e, Int.mul_comm c1]
    congr 1
    exact V_congr fun j hj => by rw [dig_set _ (by omega), if_neg (by omega)]
  have hroom := div_room (P := 2 ^ s) (mag_wd a) (mag_wd b) (mag_can b) HZ.out.2.2.2 (m := m) (by omega) hP
  rw [mag_val, mag_val, ← hM] at hroom
  have HD0 : Hid (DivSt 18446744073709551616 (val 18446744073709551616 L2) (2 ^ s * (a : Int)) (n + 2) m m (n + 1 + m + 1) (L1.set (n + 1 + m) c1) (List.replicate m 0)) := ⟨by simp [hlL1], by simp, HU1.wd.set _ ⟨HU1.c0, by have := HU1.c1; omega⟩, b9.out, by rw [Nat.sub_self, V_zero]; rw [hX]; simp, by rw [hX]; exact hroom⟩
  have hMlt : val 18446744073709551616 L2 < 18446744073709551616 ^ (n + 2) := by have := val_lt (q := 18446744073709551616) (by decide) HB1.wd; rw [hlL2] at this; exact this
  have HT : Hid (9223372036854775808 ≤ dig L2 (n + 1) ∧ val 18446744073709551616 L2 = 2 ^ s * (b : Int) ∧ val 18446744073709551616 L2 < 18446744073709551616 ^ (n + 2) ∧ Wd 18446744073709551616 L2 ∧ L2.length = n + 2 ∧ (0 : Int) < 2 ^ s) := ⟨hnt.2, hM, hMlt, HB1.wd, hlL2, hP⟩
  obtain ⟨g1, hg1⟩ : ∃ g1, w.heap.size = g1 := ⟨_, rfl⟩
  obtain ⟨g2, hg2⟩ : ∃ g2, w2.heap.size = g2 := ⟨_, rfl⟩
  obtain ⟨g3, hg3⟩ : ∃ g3, w4.heap.size = g3 := ⟨_, rfl⟩
  rw [hg1, hg2, hg3] at HC
  rw [hg1, hg2] at hgs
  rw [hg2, hg3] at hg24
  have HG : Hid (w.heap.size = g1) := hg1
  simp only [hg1, hg2, hg3]
  clear hnt hM hX hroom hMlt hP hPq hlL1 hlL2 HU1 HB1 hlb hla HU HB HA hg1 hg2 hg3 hcz hfz hcon hb' p1
  go_loopw [10] (fun i wr => ∃ (k : Nat) (Lu Lq : List Int), k ≤ m ∧ i = .int .i64 ((k : Int) - 1) ∧ DivSt 18446744073709551616 (val 18446744073709551616 L2) (2 ^ s * (a : Int)) (n + 2) m k (n + 1 + m + 1) Lu Lq ∧ Blk wr g1 .u64 67 Lu ∧ Blk wr g2 .u64 67 L2 ∧ Blk wr g3 .u64 67 Lq ∧ Below g1 w wr) (fun i _ => (intOf i + 1).toNat)
  case atStart => exact ⟨m, _, _, Nat.le_refl _, by go_num, HD0.out, HC.out.1, HC.out.2.1, HC.out.2.2.1, HC.out.2.2.2⟩
  case round =>
    obtain ⟨k, Lu, Lq, hk, rfl, hst, hbu, hbv, hbq, hbw⟩ := hrel
    have HS : Hid (DivSt 18446744073709551616 (val 18446744073709551616 L2) (2 ^ s * (a : Int)) (n + 2) m k (n + 1 + m + 1) Lu Lq ∧ Blk wr g1 .u64 67 Lu ∧ Blk wr g2 .u64 67 L2 ∧ Blk wr g3 .u64 67 Lq ∧ Below g1 w wr) := ⟨hst, hbu, hbv, hbq, hbw⟩
    clear hst hbu hbv hbq hbw
    rcases k with _ | k
    · have hwr : g3 < wr.heap.size := HS.out.2.2.2.1.lt
      go_wp2_with (first
        | (at_make; refine wpList_make_full _ rfl (.tmp 67) (.tmp 67) 24 rfl 0 67 i0 (.int .u64 0) 1 Tryd.underlying24 hi hz0 hz1 .i64 .i64 _ _ (n + 2) rfl rfl (by omega) (by omega) b4.out b5.out (Nat.zero_le _) ?_; intro w7 hown7 hgrow7; have HR : Hid (Blk w7 g1 .u64 67 Lu ∧ Blk w7 g3 .u64 67 Lq ∧ Blk w7 wr.heap.size .u64 67 (List.replicate (n + 2) 0) ∧ Below g1 w w7) := ⟨HS.out.2.1.all (grown_below hgrow7), HS.out.2.2.2.1.all (grown_below hgrow7), made_blk hown7, HS.out.2.2.2.2.trans (below_less (grown_below hgrow7) (by omega))⟩; clear hown7 hgrow7)
        | (go_at_call 106; refine (downBits_any wr.heap.size 0 (n + 2) (n + 2) (some ⟨g1, 0, none⟩) (n + 1 + m + 1) (List.replicate (n + 2) 0) (Lu.take (n + 2)) s w7 hs64 HR.out.2.2.1 b6.out (by simp) (Nat.le_refl _) (by omega) ((Own.whole (B := 0) HR.out.1 (Nat.zero_le _) HS.out.1.lu.symm).row.take (by omega)) (HS.out.1.wu.take _) (fun b o e t ht k' hk' e' => (by cases e; omega))).mono ?_; rintro e w8 ⟨r, L3, rfl, hb8, hq8, ht8⟩; have HE : Hid (Blk w8 g3 .u64 67 Lq ∧ Blk w8 wr.heap.size .u64 67 L3 ∧ L3.length = n + 2 ∧ Wd 18446744073709551616 L3 ∧ Below g1 w w8 ∧ (val 18446744073709551616 Lq = ((a / b : Nat) : Int) ∧ val 18446744073709551616 L3 = ((a % b : Nat) : Int))) := ⟨divlong_b HR.out.2.1 ht8 (by omega), hb8, (by rw [hq8.len]; simp), hq8.wd, HR.out.2.2.2.trans (ht8.below (by omega)), divlong_end HS.out.1 HT.out.2.1 HT.out.2.2.2.2.2 (by simp) hq8⟩; clear hb8 hq8 ht8)
        | (go_at_call 82; have _t := hrest9; refine (trim_any (some ⟨wr.heap.size, 0, none⟩) (n + 2) (n + 2) L3 w8 (Own.whole (B := 0) HE.out.2.1 (Nat.zero_le _) HE.out.2.2.1.symm).row (by omega)).mono ?_; rintro e w10 ⟨hT10, hw10⟩; replace hw10 := hw10.symm; subst hw10; obtain ⟨ao10, n10, cap10, hn10, rfl, hrest10⟩ := hT10)
        | (go_at_call 82; refine (trim_any (some ⟨g3, 0, none⟩) m m Lq w8 (Own.whole (B := 0) HE.out.1 (Nat.zero_le _) HS.out.1.lq.symm).row (by omega)).mono ?_; rintro e w9 ⟨hT9, hw9⟩; replace hw9 := hw9.symm; subst hw9; obtain ⟨ao9, n9, cap9, hn9, rfl, hrest9⟩ := hT9))
      go_ret2
      exact ⟨ao9, n9, cap9, ao10, n10, cap10, rfl, trim_own hn9 hrest9 (Own.whole HE.out.1 (by rw [HG.out]; omega) HS.out.1.lq.symm) HS.out.1.wq HE.out.2.2.2.2.2.1, trim_own hn10 hrest10 (Own.whole HE.out.2.1 (by rw [HG.out]; omega) HE.out.2.2.1.symm) HE.out.2.2.2.1 HE.out.2.2.2.2.2.2, by rw [HG.out]; exact HE.out.2.2.2.2.1⟩
    · have hkk : ((k + 1 : Nat) : Int) - 1 = (k : Int) := by omega
      rw [hkk]
      have hap : Hid (Apart (some ⟨g2, 0, none⟩) (n + 2) g1 k (n + 2 + 1)) := fun b o e t ht k' hk' e' => by cases e; omega
      have hro : Hid (RowAt wr .u64 (some ⟨g2, 0, none⟩) (n + 2) (n + 2) L2) := (Own.whole (B := 0) HS.out.2.2.1 (Nat.zero_le _) HT.out.2.2.2.2.1.symm).row
      clear hkk
      go_wp2_with (go_at_call 105; refine (takeOut_len g1 k (n + 1 + m + 1 - k) (k + (n + 2) + 1 - k) (some ⟨g2, 0, none⟩) n (n + 2) (by omega) Lu L2 wr HS.out.2.1 HS.out.1.wu (by have := HS.out.1.lu; omega) (by omega) (by omega) hro.out HT.out.2.2.2.1 hap.out HT.out.1 (HS.out.1.pre (by decide))).mono ?_; rintro e w6 ⟨d, L', rfl, hb6, hl6, hw6, ho6, hd6, he6, hlt6, ht6⟩; have HQ : Hid (DivSt 18446744073709551616 (val 18446744073709551616 L2) (2 ^ s * (a : Int)) (n + 2) m k (n + 1 + m + 1) L' (Lq.set k d) ∧ Blk w6 g1 .u64 67 L' ∧ Blk w6 g2 .u64 67 L2 ∧ Blk w6 g3 .u64 67 Lq ∧ Below g1 w w6) := ⟨HS.out.1.step (by decide) (by omega) HT.out.2.2.1 hl6 hw6 ho6 hd6 he6 hlt6, hb6, divlong_b HS.out.2.2.1 ht6 (by omega), divlong_b HS.out.2.2.2.1 ht6 (by omega), HS.out.2.2.2.2.trans (ht6.below (Nat.le_refl _))⟩; have hcz := HQ.out.2.2.2.1.cell (j := k) (by have := HS.out.1.lq; omega); have hfz := HQ.out.2.2.2.1.frozen k; have hgs6 : g3 < w6.heap.size := HQ.out.2.2.2.1.lt; clear hb6 hl6 hw6 ho6 hd6 he6 hlt6 ht6)
      go_roundw
      case rel => exact ⟨k, L', Lq.set k d, Nat.le_of_succ_le hk, rfl, HQ.out.1, HQ.out.2.1.other (by show g1 ≠ g3; omega) _, HQ.out.2.2.1.other (by show g2 ≠ g3; omega) _, HQ.out.2.2.2.1.set _ _, HQ.out.2.2.2.2.trans (((Touch.refl g3 w6).set _ _).below (by omega))⟩
      case measure => simp [intOf]
end Go.Proofs.YtafohkcbonlgkaaDoor
