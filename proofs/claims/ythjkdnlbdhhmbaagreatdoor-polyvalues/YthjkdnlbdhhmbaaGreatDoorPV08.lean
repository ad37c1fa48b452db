/-
  A pack of walks and facts: WQ, WR.
-/
import Derived.Test.YthjkdnlbdhhmbaaGreatDoorPV05
set_option maxRecDepth 100000
set_option maxHeartbeats 40000000
set_option linter.unusedVariables false
set_option linter.unusedSimpArgs false
namespace Go.Proofs.YthjkdnlbdhhmbaaGreatDoor
open Go.RowKit
structure ProdSt (q : Int) (L x y : List Int) (off lx ly k : Nat) (Lk : List Int) : Prop where
 len : Lk.length = L.length
 out : ∀ j, j < off ∨ off + (lx + ly) ≤ j → dig Lk j = dig L j
 wd : Wd q Lk
 zero : ∀ j, off + (lx + k) ≤ j → j < off + (lx + ly) → dig Lk j = 0
 eq : V q Lk off (lx + k) = val q x * val q (y.take k)
theorem dig_splice {L cs : List Int} {off : Nat} (h : off + cs.length ≤ L.length) (j : Nat) : dig (splice L off cs) j = if j < off then dig L j else if j < off + cs.length then dig cs (j - off) else dig L j := by
 unfold splice dig
 simp only [List.getD_eq_getElem?_getD, List.getElem?_append, List.length_take, List.getElem?_take, List.getElem?_drop]
 rw [Nat.min_eq_left (by omega)]
 by_cases h1 : j < off
 ·
  simp [h1]
 ·
  by_cases h2 : j < off + cs.length
  ·
   rw [if_neg h1, if_neg h1, if_pos h2, if_pos (by omega)]
  ·
   rw [if_neg h1, if_neg h1, if_neg h2, if_neg (by omega)]
   congr 2; omega
theorem dig_zeros (n j : Nat) : dig (List.replicate n (0 : Int)) j = 0 := by
 unfold dig; simp only [List.getD_eq_getElem?_getD, List.getElem?_replicate]; split <;> rfl
theorem wd_splice {q : Int} {L cs : List Int} {off : Nat} (h : Wd q L) (hc : Wd q cs) : Wd q (splice L off cs) := by
 unfold splice; exact (h.take _).append (hc.append (h.drop _))
theorem wd_zeros {q : Int} (hq : 0 < q) (n : Nat) : Wd q (List.replicate n 0) := fun z hz => by
 have := List.eq_of_mem_replicate hz; subst this; exact ⟨Int.le_refl _, hq⟩
theorem V_zeros {q : Int} {L : List Int} {off k : Nat} (h : ∀ j, j < k → dig L (off + j) = 0) : V q L off k = 0 := by
 induction k with
 | zero => exact V_zero q L off
 | succ k ih => rw [V_succ, ih (fun j hj => h j (by omega)), h k (by omega)]; simp
theorem ProdSt.start {q : Int} (hq : 0 < q) {L x y : List Int} {off lx ly : Nat} (hW : Wd q L) (hl : off + (lx + ly) ≤ L.length) : ProdSt q L x y off lx ly 0 (splice L off (List.replicate (lx + ly) 0)) := by
 have hd := fun j => dig_splice (L := L) (cs := List.replicate (lx + ly) (0 : Int)) (off := off) (by simpa using hl) j
 simp only [List.length_replicate] at hd
 refine ⟨length_splice _ _ _ (by simpa using hl), fun j hj => ?_, wd_splice hW (wd_zeros hq _), fun j h1 h2 => ?_, ?_⟩
 ·
  rw [hd]; rcases hj with h | h
  ·
   rw [if_pos h]
  ·
   rw [if_neg (by omega), if_neg (by omega)]
 ·
  rw [hd, if_neg (by omega), if_pos h2, dig_zeros]
 ·
  rw [V_zeros (fun j hj => by rw [hd, if_neg (by omega), if_pos (by omega), dig_zeros])]
  simp [val]
theorem ProdSt.skip {q : Int} {L x y : List Int} {off lx ly k : Nat} {Lk : List Int} (h : ProdSt q L x y off lx ly k Lk) (hk : k < ly) (hy : dig y k = 0) : ProdSt q L x y off lx ly (k + 1) Lk := by
 refine ⟨h.len, h.out, h.wd, fun j h1 h2 => h.zero j (by omega) h2, ?_⟩
 rw [← Nat.add_assoc, V_succ, h.zero (off + (lx + k)) (by omega) (by omega), val_take_dig, hy, h.eq]; simp
theorem ProdSt.step {q : Int} {L x y : List Int} {off lx ly k : Nat} {Lk L' : List Int} {c : Int} (h : ProdSt q L x y off lx ly k Lk) (hl : off + (lx + ly) ≤ L.length) (hk : k < ly) (hx : x.length ≤ lx)
  (hm : MulSt q Lk x (dig y k) (off + k) lx c L') : ProdSt q L x y off lx ly (k + 1) (L'.set (off + (k + lx)) c) := by
 have hlen : off + (k + lx) < L'.length := by rw [hm.len, h.len]; omega
 refine ⟨by simp [hm.len, h.len], fun j hj => ?_, hm.wd.set _ ⟨hm.c0, hm.c1⟩, fun j h1 h2 => ?_, ?_⟩
 ·
  rw [dig_set _ hlen, if_neg (by omega), hm.out j (by omega)]; exact h.out j hj
 ·
  rw [dig_set _ hlen, if_neg (by omega), hm.out j (by omega)]; exact h.zero j (by omega) h2
 ·
  have e0 : lx + (k + 1) = k + (lx + 1) := by omega
  rw [e0, V_split]
  have e1 : V q (L'.set (off + (k + lx)) c) off k = V q Lk off k := V_congr fun j hj => by rw [dig_set _ hlen, if_neg (by omega), hm.out _ (by omega)]
  have e2 : V q (L'.set (off + (k + lx)) c) (off + k) lx = V q L' (off + k) lx := V_congr fun j hj => by rw [dig_set _ hlen, if_neg (by omega)]
  rw [V_succ, e1, e2, dig_set _ hlen, if_pos (by omega)]
  have e3 := hm.eq
  rw [List.take_of_length_le hx] at e3
  have e4 := h.eq
  have e5 : lx + k = k + lx := by omega
  rw [e5, V_split] at e4
  rw [val_take_dig]
  have e6 : q ^ lx * c = c * q ^ lx := Int.mul_comm _ _
  rw [e6, e3]
  grind
def Product (w w' : World) (e : Ending) (g off n : Nat) (L : List Int) (T : Int) : Prop :=
 ∃ L', e = .returned (.tuple #[]) ∧ Blk w' g .u64 60 L' ∧ L'.length = L.length ∧ Wd 18446744073709551616 L' ∧ (∀ j, j < off ∨ off + n ≤ j → dig L' j = dig L j) ∧ V 18446744073709551616 L' off n = T ∧ Touch g w w'
theorem timesPlain_any (g off cap : Nat) (ao : Option Addr) (lx ca : Nat) (bo : Option Addr) (ly cb : Nat) (L xs ys : List Int) (w : World) (hb : Blk w g .u64 60 L) (hW : Wd 18446744073709551616 L) (hn : off + (lx + ly) ≤ L.length) (hnc : lx + ly ≤ cap) (hcap : cap ≤ 4611686018427387904)
  (hx : RowAt w .u64 ao lx ca xs) (hxW : Wd 18446744073709551616 xs) (hy : RowAt w .u64 bo ly cb ys) (hyW : Wd 18446744073709551616 ys) (hlx : 0 < lx) (hax : Apart ao lx g off (lx + ly)) (hay : Apart bo ly g off (lx + ly)) :
  Calls Tryz.prog 119 #[.slice (some ⟨g, off, none⟩) (lx + ly) cap, .slice ao lx ca, .slice bo ly cb] w fun e w' => Product w w' e g off (lx + ly) L (val 18446744073709551616 xs * val 18446744073709551616 ys) := by
 obtain ⟨i0, hi, hz0, hz1, hz2⟩ := info_parts info64
 have HH : Hid (Blk w g .u64 60 L ∧ Wd 18446744073709551616 L ∧ off + (lx + ly) ≤ L.length ∧ (Wd 18446744073709551616 xs ∧ Wd 18446744073709551616 ys) ∧ Apart ao lx g off (lx + ly) ∧ Apart bo ly g off (lx + ly)) := ⟨hb, hW, hn, ⟨hxW, hyW⟩, hax, hay⟩
 have HR : Hid (RowAt w .u64 ao lx ca xs ∧ RowAt w .u64 bo ly cb ys) := ⟨hx, hy⟩
 have hpos : Hid (0 < lx + ly) := by show _ < _; omega
 clear hb hW hn hxW hyW hax hay hx hy
 go_enter Tryz.func119, Tryz.ntmps119
 go_wp2_with (refine wpList_clear rfl (.tmp 8) 25 60 rfl Tryz.underlying25 i0 .u64 hi hz0 g off (lx + ly) cap hpos.out rfl 60 L HH.out.1 HH.out.2.2.1 ?_; intro w1 HB1)
 go_loopw [11] (fun i wr => ∃ (k : Nat) (Lk : List Int), k ≤ ly ∧ i = .int .i64 k ∧ ProdSt 18446744073709551616 L xs ys off lx ly k Lk ∧ Blk wr g .u64 60 Lk ∧ Touch g w wr) (fun i _ => ly - (intOf i).toNat)
 case atStart => exact ⟨0, _, Nat.zero_le _, rfl, ProdSt.start (by decide) HH.out.2.1 HH.out.2.2.1, HB1.out.1, HB1.out.2⟩
 case round =>
  obtain ⟨k, Lk, hk, rfl, hst, hbl, hto⟩ := hrel
  have HS : Hid (ProdSt 18446744073709551616 L xs ys off lx ly k Lk ∧ Blk wr g .u64 60 Lk ∧ Touch g w wr) := ⟨hst, hbl, hto⟩
  by_cases hlt : k < ly
  ·
   have hyr : RowAt wr .u64 bo ly cb ys := row_touch HR.out.2 HH.out.1 hbl hto HH.out.2.2.2.2.2 (fun j hj => hst.out j (by omega)) hst.len
   have hxr : RowAt wr .u64 ao lx ca xs := row_touch HR.out.1 HH.out.1 hbl hto HH.out.2.2.2.2.1 (fun j hj => hst.out j (by omega)) hst.len
   have HXR : Hid (RowAt wr .u64 ao lx ca xs) := hxr
   obtain ⟨b', o', rfl, hb', hc'⟩ := hyr.get (by omega)
   have hcy := hc' k hlt
   obtain ⟨y, hyv⟩ : ∃ y, dig ys k = y := ⟨_, rfl⟩
   rw [hyv] at hcy
   have HY : Hid (dig ys k = y) := hyv
   have hyb : 0 ≤ y ∧ y < 18446744073709551616 := hyv ▸ HH.out.2.2.2.1.2.dig (by decide) k
   clear hc' hyr hxr hyv hst hto
   by_cases hy0 : y = 0
   ·
    subst hy0
    clear hbl
    go_wp2
    go_roundw
    case rel => exact ⟨k + 1, Lk, by omega, by go_num, HS.out.1.skip hlt HY.out, HS.out.2.1, HS.out.2.2⟩
    case measure => simp [intOf]; omega
   ·
    have hy1 : (y != 0) = true := by simpa using hy0
    have hck : k < cap := by omega
    have hap2 : Hid (Apart ao lx g (off + k) lx) := fun b o e t ht k' hk' e' => by
     have := HH.out.2.2.2.2.1 b o e t ht (k + k') (by omega) e'; omega
    clear hbl hy0
    have hlk : Hid (off + (lx + ly) ≤ Lk.length) := by show _ ≤ _; rw [HS.out.1.len]; exact HH.out.2.2.1
    go_wp2_with (go_at_call 137; refine (addTimes_any g (off + k) lx (cap - k) ao lx ca Lk xs y wr HS.out.2.1 HS.out.1.wd (by have := hlk.out; omega) (by omega) (by omega) HXR.out HH.out.2.2.2.1.1 (Nat.le_refl _) hap2.out hyb).mono ?_; rintro e w2 ⟨c, L', rfl, hb2, hm2, ht2⟩; have HM : Hid (MulSt 18446744073709551616 Lk xs y (off + k) lx c L' ∧ Touch g wr w2 ∧ Blk w2 g .u64 60 L') := ⟨hm2, ht2, hb2⟩; have hcz := hb2.cell (j := off + (k + lx)) (by have h1 := hm2.len; have h2 := hlk.out; omega); have hfz := hb2.frozen (off + (k + lx)); have hgs : g < w2.heap.size := hb2.lt; clear hm2 ht2 hb2)
    go_roundw
    case rel => exact ⟨k + 1, L'.set (off + (k + lx)) c, by omega, by go_num, HS.out.1.step HH.out.2.2.1 hlt (by rw [← HR.out.1.hlen]; exact Nat.le_refl _) (HY.out ▸ HM.out.1), HM.out.2.2.set _ _, (HS.out.2.2.trans HM.out.2.1).set _ _⟩
    case measure => simp [intOf]; omega
  ·
   obtain rfl : k = ly := by omega
   clear hst hbl hto
   go_wp2
   go_end0
   refine ⟨Lk, rfl, HS.out.2.1, HS.out.1.len, HS.out.1.wd, HS.out.1.out, ?_, HS.out.2.2⟩
   have := HS.out.1.eq
   rw [List.take_of_length_le (by rw [← HR.out.2.hlen]; exact Nat.le_refl _)] at this
   exact this
theorem mag_of_one {n : Nat} (h : (mag n).length = 1) : mag n = [(n : Int)] ∧ 0 < n ∧ n < 18446744073709551616 := by
 have h1 : 0 < n := mag_len_pos.1 (by omega)
 have h2 : n < 18446744073709551616 := by
  by_cases e : n < 18446744073709551616
  ·
   exact e
  ·
   have := mag_two (n := n) (by omega); omega
 exact ⟨mag_one h1 h2, h1, h2⟩
theorem timesLimbs_any (u v : Int) (a b : Nat) (w : World) (hu : u = (a : Int)) (hv : v = (b : Int)) (ha : 0 < a) (hb : 0 < b) (ha' : a < 18446744073709551616) (hb' : b < 18446744073709551616) :
  Calls Tryz.prog 118 #[.int .u64 u, .int .u64 v] w fun e w' => NewNat w w' e (a * b) := by
 obtain ⟨hi, lo, hmul, hhi, hlo, hml⟩ := mul64_ex u v (by omega) (by omega)
 have hp : 0 < a * b := Nat.mul_pos ha hb
 rw [hu, hv, ← Int.natCast_mul] at hml
 obtain ⟨P, hP⟩ : ∃ P, a * b = P := ⟨_, rfl⟩
 rw [hP] at hml hp ⊢
 obtain ⟨h1, h2⟩ := hhi
 obtain ⟨h3, h4⟩ := hlo
 by_cases h0 : hi = 0
 ·
  subst h0
  have HP : Hid (mag P = [lo]) := mag_of (Wd.one ⟨h3, h4⟩) (by simp [Can]; omega) (by simp [val]; omega)
  have hbk : Hid (Blk (w.alloc (.cells #[.int .u64 lo] 60)) w.heap.size .u64 60 [lo]) := Blk.new w .u64 60 [lo]
  clear hml hu hv hP
  go_enter Tryz.func118, Tryz.ntmps118
  go_wp2_with (go_at_call 136; refine (hmul _).mono ?_; rintro e w' ⟨rfl, rfl⟩)
  go_ret
  exact ⟨_, _, _, rfl, by rw [HP.out]; exact Own.whole hbk.out (Nat.le_refl _) rfl, (Below.refl _ _).alloc (Nat.le_refl _) _⟩
 ·
  have h0' : (hi == 0) = false := by simpa using h0
  have HP : Hid (mag P = [lo, hi]) := mag_of (Wd.cons ⟨h3, h4⟩ (Wd.one ⟨h1, by omega⟩)) (by simp [Can]; omega) (by simp [val]; omega)
  have hbk : Hid (Blk (w.alloc (.cells #[.int .u64 lo, .int .u64 hi] 60)) w.heap.size .u64 60 [lo, hi]) := Blk.new w .u64 60 [lo, hi]
  clear hml hu hv hP h0
  go_enter Tryz.func118, Tryz.ntmps118
  go_wp2_with (go_at_call 136; refine (hmul _).mono ?_; rintro e w' ⟨rfl, rfl⟩)
  go_ret
  exact ⟨_, _, _, rfl, by rw [HP.out]; exact Own.whole hbk.out (Nat.le_refl _) rfl, (Below.refl _ _).alloc (Nat.le_refl _) _⟩
theorem times_small (ao bo : Option Addr) (la ca lb cb : Nat) (a b : Nat) (w : World) (hxa : RowAt w .u64 ao la ca (mag a)) (hxb : RowAt w .u64 bo lb cb (mag b)) (hl : la ≤ 4294967296) (hl' : lb ≤ 4294967296) (h40 : la < 40 ∨ lb < 40) :
  Calls Tryz.prog 104 #[.slice ao la ca, .slice bo lb cb] w fun e w' => NewNat w w' e (a * b) := by
 obtain ⟨i0, hi, hz0, hz1, hz2⟩ := info_parts info64
 by_cases hlt : la < lb
 ·
  have h40' : la < 40 := by omega
  clear h40
  have HX : Hid (RowAt w .u64 bo lb cb (mag b) ∧ RowAt w .u64 ao la ca (mag a)) := ⟨hxb, hxa⟩
  clear hxa hxb
  by_cases h0 : la = 0
  ·
   have e0 : a = 0 := by
    have := HX.out.2.hlen; rw [h0] at this
    exact (limbs_eq_nil (q := 18446744073709551616) (by decide)).1 (List.eq_nil_of_length_eq_zero this.symm)
   have HP : Hid (a * b = 0) := by show _ = _; rw [e0]; simp
   subst h0
   clear e0
   go_enter Tryz.func104, Tryz.ntmps104
   go_wp2
   go_ret
   exact ⟨none, 0, 0, rfl, by rw [HP.out]; exact Own.none_, Below.refl _ _⟩
  ·
   have h0' : ((la : Int) == 0) = false := by simp; omega
   by_cases h1 : lb = 1
   ·
    exfalso; omega
   ·
    have h1' : ((lb : Int) == 1) = false := by simp; omega
    have b1 : Hid (i0.bytes * (lb + la) ≤ 281474976710656) := by show _ ≤ _; rw [hz2]; omega
    have b2 : Hid (lb + la ≤ maxLen) := by show _ ≤ _; unfold maxLen; omega
    have b3 : Hid (Wd 18446744073709551616 (List.replicate (lb + la) 0)) := wd_zeros (by decide) _
    go_enter Tryz.func104, Tryz.ntmps104
    go_wp2_with (first
     | (at_make; refine wpList_make_full _ rfl (.tmp 32) (.tmp 32) 26 rfl w.heap.size 60 i0 (.int .u64 0) 1 Tryz.underlying26 hi hz0 hz1 .i64 .i64 _ _ (lb + la) rfl rfl (by omega) (by omega) b1.out b2.out (Nat.le_refl _) ?_; intro w1 hown1 hgrow1)
     | (go_at_call 119; refine (timesPlain_any w.heap.size 0 (lb + la) bo lb cb ao la ca (List.replicate (lb + la) 0) (mag b) (mag a) w1 (made_blk hown1) b3.out (by simp) (Nat.le_refl _) (by omega) (HX.out.1.later (grown_below hgrow1)) (mag_wd _) (HX.out.2.later (grown_below hgrow1)) (mag_wd _) (by omega) (apart_new HX.out.1 (Nat.le_refl _)) (apart_new HX.out.2 (Nat.le_refl _))).mono ?_; rintro e w2 ⟨L', rfl, hb2, hl2, hw2, _, hv2, ht2⟩; have hl3 : lb + la = L'.length := (by simp [hl2]); have HL : Hid (lb + la = L'.length ∧ V 18446744073709551616 L' 0 (lb + la) = val 18446744073709551616 (mag b) * val 18446744073709551616 (mag a)) := ⟨hl3, hv2⟩; clear hl2 hl3 hv2)
     | (go_at_call 123; refine (trim_any (some ⟨w.heap.size, 0, none⟩) (lb + la) (lb + la) L' w2 (Own.whole hb2 (Nat.le_refl _) HL.out.1).row (by omega)).mono ?_; rintro e w4 ⟨hT, rfl⟩; obtain ⟨ao', n', cap', hn', rfl, hrest⟩ := hT))
    go_ret
    exact Trimmed.nat (L := L') ⟨ao', n', cap', hn', rfl, hrest⟩ hb2 HL.out.1 (Nat.le_refl _) hw2 (by have := HL.out.2; rw [V_all _ HL.out.1, mag_val, mag_val, ← Int.natCast_mul, Nat.mul_comm b a] at this; exact this) ((grown_below hgrow1).trans (ht2.below (Nat.le_refl _)))
 ·
  have h40' : lb < 40 := by omega
  clear h40
  have HX : Hid (RowAt w .u64 ao la ca (mag a) ∧ RowAt w .u64 bo lb cb (mag b)) := ⟨hxa, hxb⟩
  clear hxa hxb
  by_cases h0 : lb = 0
  ·
   have e0 : b = 0 := by
    have := HX.out.2.hlen; rw [h0] at this
    exact (limbs_eq_nil (q := 18446744073709551616) (by decide)).1 (List.eq_nil_of_length_eq_zero this.symm)
   have HP : Hid (a * b = 0) := by show _ = _; rw [e0]; simp
   subst h0
   clear e0
   go_enter Tryz.func104, Tryz.ntmps104
   go_wp2
   go_ret
   exact ⟨none, 0, 0, rfl, by rw [HP.out]; exact Own.none_, Below.refl _ _⟩
  ·
   have h0' : ((lb : Int) == 0) = false := by simp; omega
   by_cases h1 : la = 1
   ·
    obtain rfl : lb = 1 := by omega
    subst h1
    obtain ⟨p, o, rfl, hp, hcp⟩ := HX.out.1.get (by omega)
    obtain ⟨p', o', rfl, hp', hcp'⟩ := HX.out.2.get (by omega)
    have k1 := hcp 0 (by omega)
    have k2 := hcp' 0 (by omega)
    simp only [Nat.add_zero] at k1 k2
    obtain ⟨u, hu⟩ : ∃ u, dig (mag a) 0 = u := ⟨_, rfl⟩
    obtain ⟨v, hv⟩ : ∃ v, dig (mag b) 0 = v := ⟨_, rfl⟩
    rw [hu] at k1; rw [hv] at k2
    have HU : Hid (dig (mag a) 0 = u ∧ dig (mag b) 0 = v) := ⟨hu, hv⟩
    have n1 := mag_of_one HX.out.1.hlen.symm
    have n2 := mag_of_one HX.out.2.hlen.symm
    have HN : Hid (u = (a : Int) ∧ v = (b : Int) ∧ 0 < a ∧ 0 < b ∧ a < 18446744073709551616 ∧ b < 18446744073709551616) := ⟨by rw [← hu, n1.1]; rfl, by rw [← hv, n2.1]; rfl, n1.2.1, n2.2.1, n1.2.2, n2.2.2⟩
    have HC : Hid (w.cell? ⟨p, o, none⟩ = some (.int .u64 u) ∧ w.cell? ⟨p', o', none⟩ = some (.int .u64 v)) := ⟨k1, k2⟩
    clear hcp hcp' hu hv n1 n2
    go_enter Tryz.func104, Tryz.ntmps104
    go_wp2
    go_region_held3 (fun w' => w'.cell? ⟨p, o, none⟩ = some (.int .u64 u) ∧ w'.cell? ⟨p', o', none⟩ = some (.int .u64 v))
     (first
      | exact HC.out
      | exact ⟨(hb1.cell (p := ⟨p, o, none⟩) hp).trans HC.out.1, (hb1.cell (p := ⟨p', o', none⟩) hp').trans HC.out.2⟩)
     (first | (go_at_call 118; refine (timesLimbs_any u v a b _ HN.out.1 HN.out.2.1 HN.out.2.2.1 HN.out.2.2.2.1 HN.out.2.2.2.2.1 HN.out.2.2.2.2.2).mono ?_; rintro e w1 ⟨ao1, l1, c1, rfl, ho1, hb1⟩))
    go_wp2
    go_ret
    exact ⟨_, _, _, rfl, ho1, (Below.refl _ _).drew.trans hb1⟩
   ·
    have h1' : ((la : Int) == 1) = false := by simp; omega
    have b1 : Hid (i0.bytes * (la + lb) ≤ 281474976710656) := by show _ ≤ _; rw [hz2]; omega
    have b2 : Hid (la + lb ≤ maxLen) := by show _ ≤ _; unfold maxLen; omega
    have b3 : Hid (Wd 18446744073709551616 (List.replicate (la + lb) 0)) := wd_zeros (by decide) _
    go_enter Tryz.func104, Tryz.ntmps104
    go_wp2_with (first
     | (at_make; refine wpList_make_full _ rfl (.tmp 32) (.tmp 32) 26 rfl w.heap.size 60 i0 (.int .u64 0) 1 Tryz.underlying26 hi hz0 hz1 .i64 .i64 _ _ (la + lb) rfl rfl (by omega) (by omega) b1.out b2.out (Nat.le_refl _) ?_; intro w1 hown1 hgrow1)
     | (go_at_call 119; refine (timesPlain_any w.heap.size 0 (la + lb) ao la ca bo lb cb (List.replicate (la + lb) 0) (mag a) (mag b) w1 (made_blk hown1) b3.out (by simp) (Nat.le_refl _) (by omega) (HX.out.1.later (grown_below hgrow1)) (mag_wd _) (HX.out.2.later (grown_below hgrow1)) (mag_wd _) (by omega) (apart_new HX.out.1 (Nat.le_refl _)) (apart_new HX.out.2 (Nat.le_refl _))).mono ?_; rintro e w2 ⟨L', rfl, hb2, hl2, hw2, _, hv2, ht2⟩; have hl3 : la + lb = L'.length := (by simp [hl2]); have HL : Hid (la + lb = L'.length ∧ V 18446744073709551616 L' 0 (la + lb) = val 18446744073709551616 (mag a) * val 18446744073709551616 (mag b)) := ⟨hl3, hv2⟩; clear hl2 hl3 hv2)
     | (go_at_call 123; refine (trim_any (some ⟨w.heap.size, 0, none⟩) (la + lb) (la + lb) L' w2 (Own.whole hb2 (Nat.le_refl _) HL.out.1).row (by omega)).mono ?_; rintro e w4 ⟨hT, rfl⟩; obtain ⟨ao', n', cap', hn', rfl, hrest⟩ := hT))
    go_ret
    exact Trimmed.nat (L := L') ⟨ao', n', cap', hn', rfl, hrest⟩ hb2 HL.out.1 (Nat.le_refl _) hw2 (by have := HL.out.2; rw [V_all _ HL.out.1, mag_val, mag_val, ← Int.natCast_mul] at this; exact this) ((grown_below hgrow1).trans (ht2.below (Nat.le_refl _)))
end Go.Proofs.YthjkdnlbdhhmbaaGreatDoor
