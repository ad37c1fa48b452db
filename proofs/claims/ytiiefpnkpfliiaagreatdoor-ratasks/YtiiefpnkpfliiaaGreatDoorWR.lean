/-
  Walks: timesLimbs, times (the shorter one below 40 limbs).
-/
import Derived.Test.YtiiefpnkpfliiaaGreatDoorWQ
namespace Go.Proofs.YtiiefpnkpfliiaaGreatDoor
open Go.RowKit
set_option linter.unusedVariables false
set_option linter.unusedSimpArgs false

theorem mag_of_one {n : Nat} (h : (mag n).length = 1) : mag n = [(n : Int)] ∧ 0 < n ∧ n < 18446744073709551616 := by
  have h1 : 0 < n := mag_len_pos.1 (by omega)
  have h2 : n < 18446744073709551616 := by
    by_cases e : n < 18446744073709551616
    · exact e
    · have := mag_two (n := n) (by omega); omega
  exact ⟨mag_one h1 h2, h1, h2⟩

set_option maxRecDepth 100000 in
set_option maxHeartbeats 400000 in
theorem timesLimbs_any (u v : Int) (a b : Nat) (w : World) (hu : u = (a : Int)) (hv : v = (b : Int)) (ha : 0 < a) (hb : 0 < b) (ha' : a < 18446744073709551616) (hb' : b < 18446744073709551616) :
    Calls Tryz.prog 166 #[.int .u64 u, .int .u64 v] w fun e w' => NewNat w w' e (a * b) := by
  obtain ⟨hi, lo, hmul, hhi, hlo, hml⟩ := mul64_ex u v (by omega) (by omega)
  have hp : 0 < a * b := Nat.mul_pos ha hb
  rw [hu, hv, ← Int.natCast_mul] at hml
  obtain ⟨P, hP⟩ : ∃ P, a * b = P := ⟨_, rfl⟩
  rw [hP] at hml hp ⊢
  obtain ⟨h1, h2⟩ := hhi
  obtain ⟨h3, h4⟩ := hlo
  by_cases h0 : hi = 0
  · subst h0
    have HP : Hid (mag P = [lo]) := mag_of (Wd.one ⟨h3, h4⟩) (by simp [Can]; omega) (by simp [val]; omega)
    have hbk : Hid (Blk (w.alloc (.cells #[.int .u64 lo] 59)) w.heap.size .u64 59 [lo]) := Blk.new w .u64 59 [lo]
    clear hml hu hv hP
    go_enter Tryz.func166, Tryz.ntmps166
    go_wp2_with (go_at_call 186; refine (hmul _).mono ?_; rintro e w' ⟨rfl, rfl⟩)
    go_ret
    exact ⟨_, _, _, rfl, by rw [HP.out]; exact Own.whole hbk.out (Nat.le_refl _) rfl, (Below.refl _ _).alloc (Nat.le_refl _) _⟩
  · have h0' : (hi == 0) = false := by simpa using h0
    have HP : Hid (mag P = [lo, hi]) := mag_of (Wd.cons ⟨h3, h4⟩ (Wd.one ⟨h1, by omega⟩)) (by simp [Can]; omega) (by simp [val]; omega)
    have hbk : Hid (Blk (w.alloc (.cells #[.int .u64 lo, .int .u64 hi] 59)) w.heap.size .u64 59 [lo, hi]) := Blk.new w .u64 59 [lo, hi]
    clear hml hu hv hP h0
    go_enter Tryz.func166, Tryz.ntmps166
    go_wp2_with (go_at_call 186; refine (hmul _).mono ?_; rintro e w' ⟨rfl, rfl⟩)
    go_ret
    exact ⟨_, _, _, rfl, by rw [HP.out]; exact Own.whole hbk.out (Nat.le_refl _) rfl, (Below.refl _ _).alloc (Nat.le_refl _) _⟩

set_option maxRecDepth 100000 in
set_option maxHeartbeats 2000000 in
theorem times_small (ao bo : Option Addr) (la ca lb cb : Nat) (a b : Nat) (w : World) (hxa : RowAt w .u64 ao la ca (mag a)) (hxb : RowAt w .u64 bo lb cb (mag b)) (hl : la ≤ 4294967296) (hl' : lb ≤ 4294967296) (h40 : la < 40 ∨ lb < 40) :
    Calls Tryz.prog 149 #[.slice ao la ca, .slice bo lb cb] w fun e w' => NewNat w w' e (a * b) := by
  obtain ⟨i0, hi, hz0, hz1, hz2⟩ := info_parts info64
  by_cases hlt : la < lb
  · have h40' : la < 40 := by omega
    clear h40
    have HX : Hid (RowAt w .u64 bo lb cb (mag b) ∧ RowAt w .u64 ao la ca (mag a)) := ⟨hxb, hxa⟩
    clear hxa hxb
    by_cases h0 : la = 0
    · have e0 : a = 0 := by
        have := HX.out.2.hlen; rw [h0] at this
        exact (limbs_eq_nil (q := 18446744073709551616) (by decide)).1 (List.eq_nil_of_length_eq_zero this.symm)
      have HP : Hid (a * b = 0) := by show _ = _; rw [e0]; simp
      subst h0
      clear e0
      go_enter Tryz.func149, Tryz.ntmps149
      go_wp2
      go_ret
      exact ⟨none, 0, 0, rfl, by rw [HP.out]; exact Own.none_, Below.refl _ _⟩
    · have h0' : ((la : Int) == 0) = false := by simp; omega
      by_cases h1 : lb = 1
      · exfalso; omega
      · have h1' : ((lb : Int) == 1) = false := by simp; omega
        have b1 : Hid (i0.bytes * (lb + la) ≤ 281474976710656) := by show _ ≤ _; rw [hz2]; omega
        have b2 : Hid (lb + la ≤ maxLen) := by show _ ≤ _; unfold maxLen; omega
        have b3 : Hid (Wd 18446744073709551616 (List.replicate (lb + la) 0)) := wd_zeros (by decide) _
        go_enter Tryz.func149, Tryz.ntmps149
        go_wp2_with (first
          | (at_make; refine wpList_make_full _ rfl (.tmp 32) (.tmp 32) 24 rfl w.heap.size 59 i0 (.int .u64 0) 1 Tryz.underlying24 hi hz0 hz1 .i64 .i64 _ _ (lb + la) rfl rfl (by omega) (by omega) b1.out b2.out (Nat.le_refl _) ?_; intro w1 hown1 hgrow1)
          | (go_at_call 167; refine (timesPlain_any w.heap.size 0 (lb + la) bo lb cb ao la ca (List.replicate (lb + la) 0) (mag b) (mag a) w1 (made_blk hown1) b3.out (by simp) (Nat.le_refl _) (by omega) (HX.out.1.later (grown_below hgrow1)) (mag_wd _) (HX.out.2.later (grown_below hgrow1)) (mag_wd _) (by omega) (apart_new HX.out.1 (Nat.le_refl _)) (apart_new HX.out.2 (Nat.le_refl _))).mono ?_; rintro e w2 ⟨L', rfl, hb2, hl2, hw2, _, hv2, ht2⟩; have hl3 : lb + la = L'.length := (by simp [hl2]); have HL : Hid (lb + la = L'.length ∧ V 18446744073709551616 L' 0 (lb + la) = val 18446744073709551616 (mag b) * val 18446744073709551616 (mag a)) := ⟨hl3, hv2⟩; clear hl2 hl3 hv2)
          | (go_at_call 143; refine (trim_any (some ⟨w.heap.size, 0, none⟩) (lb + la) (lb + la) L' w2 (Own.whole hb2 (Nat.le_refl _) HL.out.1).row (by omega)).mono ?_; rintro e w4 ⟨hT, rfl⟩; obtain ⟨ao', n', cap', hn', rfl, hrest⟩ := hT))
        go_ret
        exact Trimmed.nat (L := L') ⟨ao', n', cap', hn', rfl, hrest⟩ hb2 HL.out.1 (Nat.le_refl _) hw2 (by have := HL.out.2; rw [V_all _ HL.out.1, mag_val, mag_val, ← Int.natCast_mul, Nat.mul_comm b a] at this; exact this) ((grown_below hgrow1).trans (ht2.below (Nat.le_refl _)))
  · have h40' : lb < 40 := by omega
    clear h40
    have HX : Hid (RowAt w .u64 ao la ca (mag a) ∧ RowAt w .u64 bo lb cb (mag b)) := ⟨hxa, hxb⟩
    clear hxa hxb
    by_cases h0 : lb = 0
    · have e0 : b = 0 := by
        have := HX.out.2.hlen; rw [h0] at this
        exact (limbs_eq_nil (q := 18446744073709551616) (by decide)).1 (List.eq_nil_of_length_eq_zero this.symm)
      have HP : Hid (a * b = 0) := by show _ = _; rw [e0]; simp
      subst h0
      clear e0
      go_enter Tryz.func149, Tryz.ntmps149
      go_wp2
      go_ret
      exact ⟨none, 0, 0, rfl, by rw [HP.out]; exact Own.none_, Below.refl _ _⟩
    · have h0' : ((lb : Int) == 0) = false := by simp; omega
      by_cases h1 : la = 1
      · obtain rfl : lb = 1 := by omega
        subst h1
        obtain ⟨p, o, rfl, hp, hcp⟩ := HX.out.1.get (by omega)
        obtain ⟨p', o', rfl, hp', hcp'⟩ := HX.out.2.get (by omega)
        have k1 := hcp 0 (by omega)
        have k2 := hcp' 0 (by omega)
        simp only [Nat.add_zero] at k1 k2
        obtain ⟨u, hu⟩ : ∃ u, dig (mag a) 0 = u := ⟨_, rfl⟩
        obtain ⟨v, hv⟩ : ∃ v, dig (mag b) 0 = v := ⟨_, rfl⟩
        rw [hu] at k1; rw [hv] at k2
        have HU : Hid (dig (mag a) 0 = u ∧ dig (mag b) 0 = v) := ⟨hu, hv⟩
        have n1 := mag_of_one HX.out.1.hlen.symm
        have n2 := mag_of_one HX.out.2.hlen.symm
        have HN : Hid (u = (a : Int) ∧ v = (b : Int) ∧ 0 < a ∧ 0 < b ∧ a < 18446744073709551616 ∧ b < 18446744073709551616) := ⟨by rw [← hu, n1.1]; rfl, by rw [← hv, n2.1]; rfl, n1.2.1, n2.2.1, n1.2.2, n2.2.2⟩
        have HC : Hid (w.cell? ⟨p, o, none⟩ = some (.int .u64 u) ∧ w.cell? ⟨p', o', none⟩ = some (.int .u64 v)) := ⟨k1, k2⟩
        clear hcp hcp' hu hv n1 n2
        go_enter Tryz.func149, Tryz.ntmps149
        go_wp2
        go_region_held3 (fun w' => w'.cell? ⟨p, o, none⟩ = some (.int .u64 u) ∧ w'.cell? ⟨p', o', none⟩ = some (.int .u64 v))
          (first
            | exact HC.out
            | exact ⟨(hb1.cell (p := ⟨p, o, none⟩) hp).trans HC.out.1, (hb1.cell (p := ⟨p', o', none⟩) hp').trans HC.out.2⟩)
          (first | (go_at_call 166; refine (timesLimbs_any u v a b _ HN.out.1 HN.out.2.1 HN.out.2.2.1 HN.out.2.2.2.1 HN.out.2.2.2.2.1 HN.out.2.2.2.2.2).mono ?_; rintro e w1 ⟨ao1, l1, c1, rfl, ho1, hb1⟩))
        go_wp2
        go_ret
        exact ⟨_, _, _, rfl, ho1, (Below.refl _ _).drew.trans hb1⟩
      · have h1' : ((la : Int) == 1) = false := by simp; omega
        have b1 : Hid (i0.bytes * (la + lb) ≤ 281474976710656) := by show _ ≤ _; rw [hz2]; omega
        have b2 : Hid (la + lb ≤ maxLen) := by show _ ≤ _; unfold maxLen; omega
        have b3 : Hid (Wd 18446744073709551616 (List.replicate (la + lb) 0)) := wd_zeros (by decide) _
        go_enter Tryz.func149, Tryz.ntmps149
        go_wp2_with (first
          | (at_make; refine wpList_make_full _ rfl (.tmp 32) (.tmp 32) 24 rfl w.heap.size 59 i0 (.int .u64 0) 1 Tryz.underlying24 hi hz0 hz1 .i64 .i64 _ _ (la + lb) rfl rfl (by omega) (by omega) b1.out b2.out (Nat.le_refl _) ?_; intro w1 hown1 hgrow1)
          | (go_at_call 167; refine (timesPlain_any w.heap.size 0 (la + lb) ao la ca bo lb cb (List.replicate (la + lb) 0) (mag a) (mag b) w1 (made_blk hown1) b3.out (by simp) (Nat.le_refl _) (by omega) (HX.out.1.later (grown_below hgrow1)) (mag_wd _) (HX.out.2.later (grown_below hgrow1)) (mag_wd _) (by omega) (apart_new HX.out.1 (Nat.le_refl _)) (apart_new HX.out.2 (Nat.le_refl _))).mono ?_; rintro e w2 ⟨L', rfl, hb2, hl2, hw2, _, hv2, ht2⟩; have hl3 : la + lb = L'.length := (by simp [hl2]); have HL : Hid (la + lb = L'.length ∧ V 18446744073709551616 L' 0 (la + lb) = val 18446744073709551616 (mag a) * val 18446744073709551616 (mag b)) := ⟨hl3, hv2⟩; clear hl2 hl3 hv2)
          | (go_at_call 143; refine (trim_any (some ⟨w.heap.size, 0, none⟩) (la + lb) (la + lb) L' w2 (Own.whole hb2 (Nat.le_refl _) HL.out.1).row (by omega)).mono ?_; rintro e w4 ⟨hT, rfl⟩; obtain ⟨ao', n', cap', hn', rfl, hrest⟩ := hT))
        go_ret
        exact Trimmed.nat (L := L') ⟨ao', n', cap', hn', rfl, hrest⟩ hb2 HL.out.1 (Nat.le_refl _) hw2 (by have := HL.out.2; rw [V_all _ HL.out.1, mag_val, mag_val, ← Int.natCast_mul] at this; exact this) ((grown_below hgrow1).trans (ht2.below (Nat.le_refl _)))

end Go.Proofs.YtiiefpnkpfliiaaGreatDoor
