/-
  Walks: shifts down by any count; the page's Right.
-/
import Derived.Test.YtmjbmgjegiimfaaHL
import Derived.Deep.QuietTactic
import Derived.BigQuiet
namespace Go.Proofs.Ytmjbmgjegiimfaa
open Go.RowKit Go.Shelf
set_option linter.unusedVariables false
set_option linter.unusedSimpArgs false

set_option maxRecDepth 100000 in
set_option maxHeartbeats 3000000 in
theorem down2_le (ao : Option Addr) (la ca n : Nat) (a : Nat) (w : World) (hx : RowAt w .u64 ao la ca (mag a)) (hl : la ≤ 4294967296) (hn : n ≤ 9223372036854775807) :
    Calls Try.prog 19 #[.slice ao la ca, .int .i64 (n : Int)] w fun e w' => NewNat w w' e (a / 2 ^ n) := by
  obtain ⟨i0, hi, hz0, hz1, hz2⟩ := info_parts info64
  obtain ⟨B, hB⟩ : ∃ B : Int, rowBits la (dig (mag a) (la - 1)) = B := ⟨_, rfl⟩
  have hB0 : (a = 0 ∧ B = 0) ∨ ∃ l : Nat, B = l ∧ l ≤ 64 * la ∧ a < 2 ^ l ∧ (2 ^ (l - 1) ≤ a ∧ 1 ≤ l) := by
    by_cases h0 : 0 < a
    · obtain ⟨l, h1, h2, h3, h4, h5⟩ := row_bits h0 hx.hlen
      exact Or.inr ⟨l, hB ▸ h1, h3, h5, h4, h2⟩
    · refine Or.inl ⟨by omega, ?_⟩
      have : la = 0 := by
        by_cases h : 0 < la
        · exact absurd (mag_len_pos.1 (hx.hlen ▸ h)) h0
        · omega
      rw [← hB]; unfold rowBits; rw [if_pos this]
  have HX : Hid (RowAt w .u64 ao la ca (mag a) ∧ la = (mag a).length) := ⟨hx, hx.hlen⟩
  have HB : Hid (rowBits la (dig (mag a) (la - 1)) = B) := hB
  clear hx hB
  by_cases hge : B ≤ (n : Int)
  · have HZ : Hid (a / 2 ^ n = 0) := by
      show _ = _
      rcases hB0 with ⟨h, _⟩ | ⟨l, h1, _, h2, _⟩
      · rw [h, Nat.zero_div]
      · exact Nat.div_eq_of_lt (Nat.lt_of_lt_of_le h2 (Nat.pow_le_pow_right (by decide) (by omega)))
    clear hB0
    go_enter Try.func19, Try.ntmps19
    go_wp2_with (go_at_call 43; refine (nlen_any ao la ca (mag a) _ HX.out.1 (mag_wd a) hl).mono ?_; rintro e w1 ⟨rfl, hw1⟩; replace hw1 := hw1.symm; subst hw1; rw [HB.out])
    go_ret
    exact ⟨none, 0, 0, rfl, by rw [HZ.out]; exact Own.none_, Below.refl _ _⟩
  · have hdiv : (n : Int).tdiv 64 = ((n / 64 : Nat) : Int) := by rw [Int.tdiv_eq_ediv_of_nonneg (by omega)]; omega
    have hmod : (n : Int).tmod 64 = ((n % 64 : Nat) : Int) := by rw [Int.tmod_eq_emod_of_nonneg (by omega)]; omega
    have hjl : n / 64 < la := by
      rcases hB0 with ⟨_, h⟩ | ⟨l, h1, h2, _⟩ <;> omega
    obtain ⟨j, hj⟩ : ∃ j, n / 64 = j := ⟨_, rfl⟩
    obtain ⟨s, hs⟩ : ∃ s, n % 64 = s := ⟨_, rfl⟩
    have hs64 : s < 64 := by omega
    rw [hj] at hdiv hjl; rw [hs] at hmod
    have HJ : Hid (n / 64 = j ∧ n % 64 = s) := ⟨hj, hs⟩
    clear hj hs hB0
    go_enter Try.func19, Try.ntmps19
    go_wp2_with (go_at_call 43; refine (nlen_any ao la ca (mag a) _ HX.out.1 (mag_wd a) hl).mono ?_; rintro e w1 ⟨rfl, hw1⟩; replace hw1 := hw1.symm; subst hw1; rw [HB.out])
    go_loopw [6, 7] (fun v i wr => ∃ (k : Nat) (L : List Int), j + k ≤ la ∧ i = .int .i64 ((j + k : Nat) : Int) ∧ Down2St (mag a) j k (2 ^ s) L ∧ wr.ownsRow w.heap.size 44 1 v k (L.map (Value.int .u64)) ∧ Below w.heap.size w wr) (fun _ i _ => la - (intOf i).toNat)
    case atStart => exact ⟨0, [], by omega, rfl, ⟨rfl, Wd.nil _, by simp [val, V_zero]⟩, World.ownsRow_nil _ _ _ _, Below.refl _ _⟩
    case round =>
      obtain ⟨k, L, hk, rfl, hst, hown, hbel⟩ := hrel
      obtain ⟨m, hm⟩ : ∃ m, j + k = m := ⟨_, rfl⟩
      rw [hm]; rw [hm] at hk
      have HM0 : Hid (j + k = m) := hm
      have hkm : k ≤ m := by omega
      have h63 : Hid (k + 1 ≤ maxLen) := by show _ ≤ _; unfold maxLen; omega
      have hby : Hid ((k + 1) * 8 ≤ 140737488355328) := by show _ ≤ _; omega
      have hbz : Hid (w.heap.size ≤ wr.heap.size + 1) := by show _ ≤ _; have := hbel.size; omega
      have hP1 : (0 : Int) < 2 ^ s := Int.pow_pos (by decide)
      by_cases hlt : m < la
      · obtain ⟨b, off, rfl, hb, hc⟩ := HX.out.1.get (by omega)
        obtain ⟨x, hx⟩ : ∃ x, dig (mag a) m = x := ⟨_, rfl⟩
        have hcx : wr.cell? ⟨b, off + m, none⟩ = some (.int .u64 x) := hx ▸ (hbel.cell (p := ⟨b, off + m, none⟩) hb).trans (hc m hlt)
        have hbs : b < wr.heap.size := by have := hbel.size; omega
        have bx : 0 ≤ x ∧ x < 18446744073709551616 := hx ▸ (mag_wd a).dig (by decide) m
        have hq : 0 ≤ x / 2 ^ s ∧ x / 2 ^ s < 18446744073709551616 := ⟨Int.ediv_nonneg bx.1 (by omega), Int.lt_of_le_of_lt (Int.ediv_le_self _ bx.1) bx.2⟩
        by_cases hs0 : s = 0
        · have hs1 : ¬ (0 : Int) < (s : Int) := by omega
          obtain ⟨d, hd⟩ : ∃ d, x / 2 ^ s = d := ⟨_, rfl⟩
          have HN : Hid (Down2St (mag a) j (k + 1) (2 ^ s) (L ++ [d])) := hst.step (hd ▸ hq) (by
            rw [hm, hx, ← hd, hs0]; simp [Int.emod_one])
          clear hst hc hx bx hq hs0 hm hP1
          go_wp2_with (at_builtin; refine wpList_append_lies _ rfl _ _ 24 rfl w.heap.size 44 i0 (.int .u64 0) 1 8 Try.underlying24 hi hz0 hz1 hz2 rfl (by decide) _ k _ rfl (hown.alloc _) ⟨wr.heap.size, 0, none⟩ 1 1 [.int .u64 d] rfl rfl (World.news_of_block (cs := #[.int .u64 d]) (t := 44) (fr := (0, 0)) (heap_alloc_new wr _)) (by simp [Value.oneCell']) (by decide) h63.out hby.out (by simpa using hbz.out) (wr.heap.size + 1) (by simp) ?_; intro g cp w3 hown1 hgrow hat hltg; have hB1 : Below w.heap.size w w3 := (hbel.alloc hbel.size _).grown hgrow (by simpa using hbz.out) (own_from hown))
          go_roundw
          case rel => exact ⟨k + 1, L ++ [d], by have := HM0.out; omega, by have := HM0.out; go_num, HN.out, by rw [List.map_append]; exact hown1, hB1⟩
          case measure => simp [intOf]; omega
        · have hs1 : (0 : Int) < (s : Int) := by omega
          by_cases hlt2 : m + 1 < la
          · obtain ⟨y, hy⟩ : ∃ y, dig (mag a) (m + 1) = y := ⟨_, rfl⟩
            have hcy : wr.cell? ⟨b, off + (m + 1), none⟩ = some (.int .u64 y) := hy ▸ (hbel.cell (p := ⟨b, off + (m + 1), none⟩) hb).trans (hc (m + 1) hlt2)
            have bby : 0 ≤ y ∧ y < 18446744073709551616 := hy ▸ (mag_wd a).dig (by decide) (m + 1)
            obtain ⟨d, hd, hd1, he⟩ := down2_ex x y s hs64 bx bby
            have HN : Hid (Down2St (mag a) j (k + 1) (2 ^ s) (L ++ [d])) := hst.step hd1 (by rw [hm, hx, hy]; exact he)
            clear hst hc hx hy bx bby hq hs0 hm hd1 he hP1
            go_wp2_with (at_builtin; refine wpList_append_lies _ rfl _ _ 24 rfl w.heap.size 44 i0 (.int .u64 0) 1 8 Try.underlying24 hi hz0 hz1 hz2 rfl (by decide) _ k _ rfl (hown.alloc _) ⟨wr.heap.size, 0, none⟩ 1 1 [.int .u64 d] rfl rfl (World.news_of_block (cs := #[.int .u64 d]) (t := 44) (fr := (0, 0)) (heap_alloc_new wr _)) (by simp [Value.oneCell']) (by decide) h63.out hby.out (by simpa using hbz.out) (wr.heap.size + 1) (by simp) ?_; intro g cp w3 hown1 hgrow hat hltg; have hB1 : Below w.heap.size w w3 := (hbel.alloc hbel.size _).grown hgrow (by simpa using hbz.out) (own_from hown))
            go_roundw
            case rel => exact ⟨k + 1, L ++ [d], by have := HM0.out; omega, by have := HM0.out; go_num, HN.out, by rw [List.map_append]; exact hown1, hB1⟩
            case measure => simp [intOf]; omega
          · obtain ⟨d, hd⟩ : ∃ d, x / 2 ^ s = d := ⟨_, rfl⟩
            have HN : Hid (Down2St (mag a) j (k + 1) (2 ^ s) (L ++ [d])) := hst.step (hd ▸ hq) (by
              rw [hm, hx, ← hd, dig_over (zs := mag a) (k := m + 1) (by rw [← HX.out.2]; omega), Int.mul_comm, Int.mul_ediv_add_emod]; simp)
            clear hst hc hx bx hq hs0 hm hP1
            go_wp2_with (at_builtin; refine wpList_append_lies _ rfl _ _ 24 rfl w.heap.size 44 i0 (.int .u64 0) 1 8 Try.underlying24 hi hz0 hz1 hz2 rfl (by decide) _ k _ rfl (hown.alloc _) ⟨wr.heap.size, 0, none⟩ 1 1 [.int .u64 d] rfl rfl (World.news_of_block (cs := #[.int .u64 d]) (t := 44) (fr := (0, 0)) (heap_alloc_new wr _)) (by simp [Value.oneCell']) (by decide) h63.out hby.out (by simpa using hbz.out) (wr.heap.size + 1) (by simp) ?_; intro g cp w3 hown1 hgrow hat hltg; have hB1 : Below w.heap.size w w3 := (hbel.alloc hbel.size _).grown hgrow (by simpa using hbz.out) (own_from hown))
            go_roundw
            case rel => exact ⟨k + 1, L ++ [d], by have := HM0.out; omega, by have := HM0.out; go_num, HN.out, by rw [List.map_append]; exact hown1, hB1⟩
            case measure => simp [intOf]; omega
      · obtain rfl : m = la := by omega
        have HE : Hid (val 18446744073709551616 L = ((a / 2 ^ n : Nat) : Int) ∧ Wd 18446744073709551616 L ∧ L.length = k) := by
          refine ⟨?_, hst.wd, hst.len⟩
          have e := hst.eq
          rw [hm, dig_over (zs := mag a) (k := m) (by rw [← HX.out.2]; exact Nat.le_refl _), V_rest _ (by rw [← HX.out.2]; omega)] at e
          simp only [Int.zero_emod, Int.zero_mul, Int.add_zero] at e
          exact down_num (r := dig (mag a) j % 2 ^ s) (by rw [HJ.out.1, ← HX.out.2]; omega) (by rw [HJ.out.1, HJ.out.2]; exact e) (Int.emod_nonneg _ (by omega)) (by rw [HJ.out.2]; exact Int.emod_lt_of_pos _ hP1)
        obtain ⟨ao1, c1, hv, hrow⟩ := row_of_owns HE.out.2.2 hown
        subst hv
        have hcap := cap_of_owns hown
        have hOw := Own.ofRow HE.out.2.2 hown
        clear hst hm hP1
        go_wp2_with (go_at_call 42; refine (ntrim_any ao1 k c1 L _ hrow hcap).mono ?_; rintro e w4 ⟨hT, hw4⟩; replace hw4 := hw4.symm; subst hw4; have HT : Hid (Trimmed wr .u64 ao1 k c1 L e) := hT; obtain ⟨ao', n', cap', hn', rfl, hrest⟩ := hT)
        go_ret
        exact Trimmed.natOwn HT.out hOw HE.out.2.1 HE.out.1 hbel

set_option maxRecDepth 100000 in
set_option maxHeartbeats 1000000 in
theorem shiftDown_le (ao : Option Addr) (la ca n : Nat) (a : Nat) (w : World) (hx : RowAt w .u64 ao la ca (mag a)) (hl : la ≤ 4294967296) (hn : n ≤ 9223372036854775807) :
    Calls Try.prog 34 #[.slice ao la ca, .int .i64 (n : Int)] w fun e w' => NewNat w w' e (a / 2 ^ n) := by
  obtain ⟨i0, hi, hz0, hz1, hz2⟩ := info_parts info64
  have hdiv : (n : Int).tdiv 64 = ((n / 64 : Nat) : Int) := by rw [Int.tdiv_eq_ediv_of_nonneg (by omega)]; omega
  have hmod : (n : Int).tmod 64 = ((n % 64 : Nat) : Int) := by rw [Int.tmod_eq_emod_of_nonneg (by omega)]; omega
  obtain ⟨j, hj⟩ : ∃ j, n / 64 = j := ⟨_, rfl⟩
  obtain ⟨s, hs⟩ : ∃ s, n % 64 = s := ⟨_, rfl⟩
  have hs64 : s < 64 := by omega
  rw [hj] at hdiv; rw [hs] at hmod
  by_cases hge : la ≤ j
  · have HZ : Hid (a / 2 ^ n = 0) := by
      show _ = _
      apply Nat.div_eq_of_lt
      have h1 := mag_len_lt hx.hlen
      have h2 : (18446744073709551616 : Int) ^ la ≤ ((2 ^ n : Nat) : Int) := by
        rw [show (18446744073709551616 : Int) = 2 ^ 64 from rfl, ← Int.pow_mul, Int.natCast_pow]
        exact pow_mono' (by decide) (by omega)
      omega
    clear hx
    go_enter Try.func34, Try.ntmps34
    go_wp2
    go_ret
    exact ⟨none, 0, 0, rfl, by rw [HZ.out]; exact Own.none_, Below.refl _ _⟩
  · obtain ⟨b, o, rfl, hlt, hc⟩ := hx.get (by omega)
    have hcl := hx.hcap
    have HX : Hid (RowAt w .u64 (some ⟨b, o, none⟩) la ca (mag a)) := hx
    have HJ : Hid (n / 64 = j ∧ n % 64 = s) := ⟨hj, hs⟩
    have b1 : Hid (i0.bytes * (la - j) ≤ 281474976710656) := by show _ ≤ _; rw [hz2]; omega
    have b2 : Hid (la - j ≤ maxLen) := by show _ ≤ _; unfold maxLen; omega
    have b3 : Hid (Wd 18446744073709551616 (List.replicate (la - j) 0)) := wd_zeros (by decide) _
    clear hx hc hj hs
    go_enter Try.func34, Try.ntmps34
    go_wp2_with (first
      | (at_make; refine wpList_make_full _ rfl (.tmp 16) (.tmp 16) 24 rfl 0 44 i0 (.int .u64 0) 1 Try.underlying24 hi hz0 hz1 .i64 .i64 _ _ (la - j) rfl rfl (by omega) (by omega) b1.out b2.out (Nat.zero_le _) ?_; intro w1 hown1 hgrow1; have HB : Hid (Blk w1 w.heap.size .u64 44 (List.replicate (la - j) 0) ∧ Below w.heap.size w w1) := ⟨made_blk hown1, grown_below hgrow1⟩; clear hown1 hgrow1)
      | (go_at_call 56; go_loud (refine (downBits_any w.heap.size 0 (la - j) (la - j) (some ⟨b, o + j, none⟩) (ca - j) (List.replicate (la - j) 0) ((mag a).drop j) s w1 hs64 HB.out.1 b3.out (by simp) (Nat.le_refl _) (by omega) ((HX.out.drop (by omega)).later HB.out.2) ((mag_wd _).drop _) (apart_new (HX.out.drop (by omega)) (Nat.le_refl _))).mono ?_; rintro e w2 ⟨r, L2, rfl, hb2, hq2, ht2⟩; have HQ : Hid (Blk w2 w.heap.size .u64 44 L2 ∧ L2.length = la - j ∧ Wd 18446744073709551616 L2 ∧ Below w.heap.size w w2 ∧ val 18446744073709551616 L2 = ((a / 2 ^ n : Nat) : Int)) := ⟨hb2, (by rw [hq2.len]; simp), hq2.wd, HB.out.2.trans (ht2.below (Nat.le_refl _)), down_end (L0 := List.replicate (la - j) 0) HX.out.hlen (by rw [HJ.out.1]; omega) (by rw [HJ.out.1]; simp) (by rw [HJ.out.1, HJ.out.2]; exact hq2)⟩; clear hb2 hq2 ht2))
      | (go_at_call 53; refine (trim_any (some ⟨w.heap.size, 0, none⟩) (la - j) (la - j) L2 w2 (Own.whole (B := 0) HQ.out.1 (Nat.zero_le _) HQ.out.2.1.symm).row (by omega)).mono ?_; rintro e w4 ⟨hT4, hw4⟩; replace hw4 := hw4.symm; subst hw4; obtain ⟨ao4, n4, cap4, hn4, rfl, hrest4⟩ := hT4))
    go_ret
    exact ⟨ao4, n4, cap4, rfl, trim_own hn4 hrest4 (Own.whole HQ.out.1 (Nat.le_refl _) HQ.out.2.1.symm) HQ.out.2.2.1 HQ.out.2.2.2.2, HQ.out.2.2.2.1⟩

set_option maxRecDepth 100000 in
set_option maxHeartbeats 1000000 in
theorem lowBits_le (ao : Option Addr) (la ca n a : Nat) (w : World) (hx : RowAt w .u64 ao la ca (mag a)) (hl : la ≤ 4294967296) (hn : n ≤ 9223372036854775807) :
    Calls Try.prog 35 #[.slice ao la ca, .int .i64 (n : Int)] w fun e w' => e = .returned (.bool (decide (a % 2 ^ n ≠ 0))) ∧ w' = w := by
  have hdiv : (n : Int).tdiv 64 = ((n / 64 : Nat) : Int) := by rw [Int.tdiv_eq_ediv_of_nonneg (by omega)]; omega
  have hmod : (n : Int).tmod 64 = ((n % 64 : Nat) : Int) := by rw [Int.tmod_eq_emod_of_nonneg (by omega)]; omega
  obtain ⟨j, hj⟩ : ∃ j, n / 64 = j := ⟨_, rfl⟩
  obtain ⟨s, hs⟩ : ∃ s, n % 64 = s := ⟨_, rfl⟩
  have hs64 : s < 64 := by omega
  rw [hj] at hdiv; rw [hs] at hmod
  by_cases hge : la ≤ j
  · have HA : Hid (decide (a % 2 ^ n ≠ 0) = decide (0 < la)) := low_a hx.hlen (by omega)
    rw [HA.out]
    clear hx
    by_cases h0 : la = 0
    · subst h0
      go_enter Try.func35, Try.ntmps35
      go_wp2
      go_ret
      exact ⟨rfl, rfl⟩
    · rw [decide_eq_true (show 0 < la by omega)]
      have h0' : (0 : Int) < (la : Int) := by omega
      go_enter Try.func35, Try.ntmps35
      go_wp2
      go_ret
      exact ⟨by simp; omega, rfl⟩
  · obtain ⟨b, o, rfl, hlt, hc⟩ := hx.get (by omega)
    have hlen := hx.hlen
    have hcl := hx.hcap
    have HJ : Hid (n / 64 = j ∧ n % 64 = s ∧ la = (mag a).length) := ⟨hj, hs, hlen⟩
    have HC : Hid (∀ t, t < la → w.cell? ⟨b, o + t, none⟩ = some (.int .u64 (dig (mag a) t))) := hc
    have HB : Hid (∀ t, 0 ≤ dig (mag a) t ∧ dig (mag a) t < 18446744073709551616) := fun t => (mag_wd a).dig (by decide) t
    clear hx hc hj hs hlen
    go_enter Try.func35, Try.ntmps35
    go_wp2
    go_loopw [21, 7] (fun i _ wr => ∃ k : Nat, k ≤ j ∧ i = .int .i64 k ∧ wr = w ∧ ∀ t, t < k → dig (mag a) t = 0) (fun i _ _ => j - (intOf i).toNat)
    case atStart => exact ⟨0, Nat.zero_le _, rfl, rfl, fun t ht => by omega⟩
    case round =>
      obtain ⟨k, hk, rfl, rfl, hz⟩ := hrel
      have HZ : Hid (∀ t, t < k → dig (mag a) t = 0) := hz
      clear hz
      by_cases hlt2 : k < j
      · have hck := HC.out k (by omega)
        have hbk := HB.out k
        obtain ⟨z, hze⟩ : ∃ z, dig (mag a) k = z := ⟨_, rfl⟩
        rw [hze] at hck hbk
        have HE : Hid (dig (mag a) k = z) := hze
        clear hze
        by_cases hz0 : z = 0
        · subst hz0
          go_wp2
          go_roundw
          case rel =>
            refine ⟨k + 1, by omega, by go_num, by first | trivial | rfl, fun t ht => ?_⟩
            rcases Nat.lt_or_ge t k with h | h
            · exact HZ.out t h
            · rw [show t = k by omega]; exact HE.out
          case measure => simp [intOf]; omega
        · have hz0' : (z == 0) = false := by simp [hz0]
          have HL : Hid (decide (a % 2 ^ n ≠ 0) = true) := decide_eq_true (low_b (t := k) (by rw [HJ.out.1, ← HJ.out.2.2]; omega) (by rw [HJ.out.1]; omega) (by rw [HE.out]; exact hz0))
          go_wp2
          go_ret
          exact ⟨by rw [HL.out]; rfl, rfl⟩
      · obtain rfl : k = j := by omega
        have hck := HC.out k (by omega)
        have hbk := HB.out k
        obtain ⟨z, hze⟩ : ∃ z, dig (mag a) k = z := ⟨_, rfl⟩
        rw [hze] at hck hbk
        have hlc := (low_c (n := n) (z := z) (by rw [HJ.out.1, ← HJ.out.2.2]; omega) (by rw [HJ.out.1]; exact HZ.out) (by rw [HJ.out.1]; exact hze)).2
        rw [HJ.out.2.1] at hlc
        obtain ⟨y, hy⟩ : ∃ y, (z * 2 ^ (64 - s)) % 18446744073709551616 = y := ⟨_, rfl⟩
        rw [hy] at hlc
        have hw : IntKind.u64.wrap (z * 2 ^ (64 - s)) = y := by rw [IntKind.wrap_u64]; exact hy
        have HL : Hid (a % 2 ^ n ≠ 0 ↔ y ≠ 0) := hlc
        clear hlc hy hze
        go_wp2
        have HD : Hid (decide (a % 2 ^ n ≠ 0) = (y != 0)) := by
          show _ = _
          by_cases h : y = 0
          · rw [decide_eq_false (fun h' => (HL.out.1 h') h)]; subst h; rfl
          · rw [decide_eq_true (HL.out.2 h)]; simp [h]
        go_ret
        exact ⟨by rw [HD.out]; rfl, rfl⟩


set_option maxRecDepth 100000 in
set_option maxHeartbeats 1000000 in
theorem bright_le (neg : Bool) (ao : Option Addr) (len cap n : Nat) (v : Int) (w : World) (hx : IntAt w neg ao len cap v) (hl : len ≤ 4294967295) (hn : n ≤ 9223372036854775807) :
    Calls Try.prog 12 #[.agg #[.bool neg, .slice ao len cap], .int .i64 (n : Int)] w fun e w' => NewIntErr w w' e (v / ((2 ^ n : Nat) : Int)) := by
  obtain ⟨W, hT⟩ := One2.mk' w neg ao len cap
  have hsz := hT.size
  have hR := hx.later hT.below
  have hM : Hid ((if mayB neg (mag v.natAbs) then 0 else 10 : Int) = 0) := hx.may
  have HE : Hid (v / ((2 ^ n : Nat) : Int) = sgn neg (if neg = true ∧ v.natAbs % 2 ^ n ≠ 0 then v.natAbs / 2 ^ n + 1 else v.natAbs / 2 ^ n)) := right_math hx.sg _ (Nat.pow_pos (by decide))
  have HQ : Hid ((mag (v.natAbs / 2 ^ n)).length ≤ len) := by
    show _ ≤ _
    rw [hx.row.hlen]; exact mag_len_mono (Nat.div_le_self _ _)
  clear hx
  cases neg
  · have HE2 : Hid (v / ((2 ^ n : Nat) : Int) = sgn false (v.natAbs / 2 ^ n)) := by have h := HE.out; rw [if_neg (fun h' => by cases h'.1)] at h; exact h
    clear HE
    go_enter Try.func12, Try.ntmps12
    go_wp2_with (first
      | (go_at_call 28; rw [← hT.eq]; refine (check_at false ao len cap _ _ hR.row (by omega) 0 hM.out).mono ?_; rintro e w1 ⟨rfl, hb1⟩; have hs1 := hb1.size; obtain ⟨p0, p1⟩ := hT.a.later hb1 (by omega))
      | (go_at_call 34; refine (shiftDown_le ao len cap n v.natAbs _ (hR.row.later hb1) (by omega) hn).mono ?_; rintro e w2 ⟨ao2, l2, c2, rfl, ho2, hb2⟩; have hlen2 : l2 ≤ len := (by rw [ho2.row.hlen]; exact HQ.out); clear p0 p1; obtain ⟨p0, p1⟩ := hT.a.later (bnext hb1 hb2) (by omega))
      | (go_at_call 29; refine (signed_any false ao2 l2 c2 _ (by omega)).mono ?_; rintro e w3 ⟨rfl, hb3⟩; obtain ⟨g5, g3, g4⟩ := hT.r.later (bnext hb1 (bnext hb2 hb3)) (by omega)))
    exact bodyPost_ret (v := .tuple #[.agg #[.bool (false && decide (0 < l2)), .slice ao2 l2 c2], .int .i64 0]) (by simp [results, Try.results12, go_sem, g3, g4]) rfl
      (NewInt.ret ((ho2.later hb3).store (by omega) _ _) (by omega) HE2.out (below_store (bnext hT.below (bnext hb1 (bnext hb2 hb3))) (by omega) _ _)).err
  · by_cases hlow : v.natAbs % 2 ^ n ≠ 0
    · have HE2 : Hid (v / ((2 ^ n : Nat) : Int) = sgn true (v.natAbs / 2 ^ n + 1)) := by have h := HE.out; rw [if_pos ⟨rfl, hlow⟩] at h; exact h
      have hlb := fun w hx => lowBits_le ao len cap n v.natAbs w hx (by omega) hn
      simp only [decide_eq_true hlow] at hlb
      clear HE hlow
      go_enter Try.func12, Try.ntmps12
      go_wp2_with (first
        | (go_at_call 28; rw [← hT.eq]; refine (check_at true ao len cap _ _ hR.row (by omega) 0 hM.out).mono ?_; rintro e w1 ⟨rfl, hb1⟩; have hs1 := hb1.size; obtain ⟨p0, p1⟩ := hT.a.later hb1 (by omega))
        | (go_at_call 34; refine (shiftDown_le ao len cap n v.natAbs _ (hR.row.later hb1) (by omega) hn).mono ?_; rintro e w2 ⟨ao2, l2, c2, rfl, ho2, hb2⟩; have hlen2 : l2 ≤ len := (by rw [ho2.row.hlen]; exact HQ.out); clear p0 p1; obtain ⟨p0, p1⟩ := hT.a.later (bnext hb1 hb2) (by omega); have hO := one_row' w2 1 1 rfl (by decide) (by decide); have HO : Hid (Own w2.heap.size (w2.alloc (.cells #[.int .u64 1] 44)) .u64 44 (some ⟨w2.heap.size, 0, none⟩) 1 1 (mag 1) ∧ Below w2.heap.size w2 (w2.alloc (.cells #[.int .u64 1] 44))) := hO; clear hO)
        | (go_at_call 35; refine (hlb _ (hR.row.later (bnext hb1 hb2))).mono ?_; rintro e w9 ⟨rfl, hw9⟩; replace hw9 := hw9.symm; subst hw9)
        | (go_at_call 36; refine (plus_any ao2 (some ⟨w2.heap.size, 0, none⟩) l2 c2 1 1 (v.natAbs / 2 ^ n) 1 _ (ho2.row.later HO.out.2) HO.out.1.row (by omega) (by omega)).mono ?_; rintro e w4 ⟨ao4, l4, c4, rfl, ho4, hb4⟩; have hl4 : l4 ≤ 4611686018427387904 := (by rw [ho4.row.hlen]; have q1 := mag_len_add (v.natAbs / 2 ^ n) 1; rw [← ho2.row.hlen] at q1; have q2 := mag_len_one (n := 1) (by decide); omega); have HB4 : Hid (Below W.heap.size W w4) := bnext (bnext (bnext hb1 hb2) HO.out.2) hb4; clear p0 p1; obtain ⟨p0, p1⟩ := hT.a.later HB4.out (by omega); have hs4 := HB4.out.size; have hs5 : W.heap.size ≤ (w2.alloc (.cells #[.int .u64 1] 44)).heap.size := (bnext (bnext hb1 hb2) HO.out.2).size)
        | (go_at_call 29; refine (signed_any true ao4 l4 c4 _ (by omega)).mono ?_; rintro e w3 ⟨rfl, hb3⟩; obtain ⟨g5, g3, g4⟩ := hT.r.later (bnext HB4.out hb3) (by omega)))
      exact bodyPost_ret (v := .tuple #[.agg #[.bool (true && decide (0 < l4)), .slice ao4 l4 c4], .int .i64 0]) (by simp [results, Try.results12, go_sem, g3, g4]) rfl
        (NewInt.ret ((ho4.later hb3).store (by omega) _ _) (by omega) HE2.out (below_store (bnext hT.below (bnext HB4.out hb3)) (by omega) _ _)).err
    · have HE2 : Hid (v / ((2 ^ n : Nat) : Int) = sgn true (v.natAbs / 2 ^ n)) := by have h := HE.out; rw [if_neg (fun h' => hlow h'.2)] at h; exact h
      have hlb := fun w hx => lowBits_le ao len cap n v.natAbs w hx (by omega) hn
      simp only [decide_eq_false hlow] at hlb
      clear HE hlow
      go_enter Try.func12, Try.ntmps12
      go_wp2_with (first
        | (go_at_call 28; rw [← hT.eq]; refine (check_at true ao len cap _ _ hR.row (by omega) 0 hM.out).mono ?_; rintro e w1 ⟨rfl, hb1⟩; have hs1 := hb1.size; obtain ⟨p0, p1⟩ := hT.a.later hb1 (by omega))
        | (go_at_call 34; refine (shiftDown_le ao len cap n v.natAbs _ (hR.row.later hb1) (by omega) hn).mono ?_; rintro e w2 ⟨ao2, l2, c2, rfl, ho2, hb2⟩; have hlen2 : l2 ≤ len := (by rw [ho2.row.hlen]; exact HQ.out); clear p0 p1; obtain ⟨p0, p1⟩ := hT.a.later (bnext hb1 hb2) (by omega))
        | (go_at_call 35; refine (hlb _ (hR.row.later (bnext hb1 hb2))).mono ?_; rintro e w9 ⟨rfl, hw9⟩; replace hw9 := hw9.symm; subst hw9)
        | (go_at_call 29; refine (signed_any true ao2 l2 c2 _ (by omega)).mono ?_; rintro e w3 ⟨rfl, hb3⟩; obtain ⟨g5, g3, g4⟩ := hT.r.later (bnext hb1 (bnext hb2 hb3)) (by omega)))
      exact bodyPost_ret (v := .tuple #[.agg #[.bool (true && decide (0 < l2)), .slice ao2 l2 c2], .int .i64 0]) (by simp [results, Try.results12, go_sem, g3, g4]) rfl
        (NewInt.ret ((ho2.later hb3).store (by omega) _ _) (by omega) HE2.out (below_store (bnext hT.below (bnext hb1 (bnext hb2 hb3))) (by omega) _ _)).err


theorem below_nr {B : Nat} {a b : World} {n : Nat} (h : Below B a b) : Below B a (b.drewN n) := ⟨h.os, h.tape, h.output, h.size, h.block⟩
theorem up2_zero (ao : Option Addr) (ca : Nat) (n : Int) (w : World) :
    Calls Try.prog 18 #[.slice ao (0 : Nat) ca, .int .i64 n] w fun e w' => NewNat w w' e 0 := by
  have HM : Hid (mag 0 = []) := mag_of (Wd.nil _) Can.nil rfl
  go_enter Try.func18, Try.ntmps18
  go_wp2
  go_ret
  exact ⟨none, 0, 0, rfl, by rw [HM.out]; exact Own.none_, Below.refl _ _⟩
theorem up2_right (ao : Option Addr) (la ca n a : Nat) (w : World) (hx : RowAt w .u64 ao la ca (mag a)) (hl : la ≤ 1000) (hn : a = 0 ∨ n ≤ 100000) :
    Calls Try.prog 18 #[.slice ao la ca, .int .i64 (n : Int)] w fun e w' => NewNat w w' e (a * 2 ^ n) := by
  by_cases h : a = 0
  · subst h
    have hl0 : la = 0 := by
      by_cases h : 0 < la
      · have := mag_len_pos.1 (hx.hlen ▸ h); omega
      · omega
    subst hl0
    rw [Nat.zero_mul]
    exact up2_zero ao ca n w
  · exact up2_any ao la ca n a w hx (by omega) (by omega)

theorem down_small {a l n : Nat} (hl : l = (mag a).length) (h : l ≤ 1000) : a / 2 ^ n = 0 ∨ n ≤ 100000 := by
  by_cases hn : n ≤ 100000
  · exact Or.inr hn
  · refine Or.inl (Nat.div_eq_of_lt ?_)
    have h1 := mag_len_lt (n := a) rfl
    rw [← hl] at h1
    have h2 : (18446744073709551616 : Int) ^ l = ((2 ^ (64 * l) : Nat) : Int) := by rw [Nat.pow_mul, Int.natCast_pow]; rfl
    rw [h2] at h1
    have h3 : 2 ^ (64 * l) ≤ 2 ^ n := Nat.pow_le_pow_right (by decide) (by omega)
    omega

set_option maxRecDepth 100000 in
set_option maxHeartbeats 1000000 in
theorem rright_pos (ao : Option Addr) (len cap n : Nat) (v : Int) (w : World) (hx : IntAt w false ao len cap v) (hl : len ≤ 1000) (hn : n ≤ 9223372036854775807) :
    Calls Try.prog 7 #[.agg #[.bool false, .slice ao len cap], .int .i64 (n : Int)] w fun e w' => RefInt w w' e (v / ((2 ^ n : Nat) : Int)) := by
  obtain ⟨W, hT⟩ := One2.mk' w false ao len cap
  have hsz := hT.size
  have hR := hx.later hT.below
  have HE : Hid (v / ((2 ^ n : Nat) : Int) = sgn false (v.natAbs / 2 ^ n)) := by have h := right_math hx.sg (2 ^ n) (Nat.pow_pos (by decide)); rw [if_neg (by simp)] at h; exact h
  have HD : Hid ((mag (v.natAbs / 2 ^ n)).length ≤ len ∧ (v.natAbs / 2 ^ n = 0 ∨ n ≤ 100000)) := ⟨by rw [hx.row.hlen]; exact mag_len_mono (Nat.div_le_self _ _), down_small hx.row.hlen hl⟩
  clear hx
  go_enter Try.func7, Try.ntmps7
  go_wp2_with (go_at_call 19; rw [← hT.eq]; refine (down2_le ao len cap n v.natAbs _ hR.row (by omega) hn).mono ?_; rintro e w1 ⟨o1, l1, c1, rfl, ho1, hb1⟩; have hl1 : l1 ≤ len := (by rw [ho1.row.hlen]; exact HD.out.1); obtain ⟨p0, p1⟩ := hT.a.later hb1 (by omega))
  go_quiet (fail)
  have hbN := below_nr (n := nq) (Below.refl w1.heap.size w1)
  clear p0 p1
  obtain ⟨p0, p1⟩ := hT.a.later (bnext hb1 hbN) (by omega)
  go_wp2_with (go_at_call 17; refine (made_any false o1 l1 c1 _ (by omega)).mono ?_; rintro e w4 ⟨rfl, hb4⟩; obtain ⟨g5, g3, g4⟩ := hT.r.later (bnext (bnext hb1 hbN) hb4) (by omega))
  exact bodyPost_ret (v := .agg #[.bool (false && decide (0 < l1)), .slice o1 l1 c1]) (by simp [results, Try.results7, go_sem, g3, g4]) rfl
    (RefInt.ret (((ho1.row.later hbN).later hb4).kept ⟨g5, g3, g4⟩ _ _) HE.out (below_store (bnext hT.below (bnext (bnext hb1 hbN) hb4)) (by omega) _ _))

set_option maxRecDepth 100000 in
set_option maxHeartbeats 1000000 in
theorem rright_even (ao : Option Addr) (len cap n : Nat) (v : Int) (w : World) (hx : IntAt w true ao len cap v) (hl : len ≤ 1000) (hn : n ≤ 9223372036854775807) (hr : v.natAbs % 2 ^ n = 0) :
    Calls Try.prog 7 #[.agg #[.bool true, .slice ao len cap], .int .i64 (n : Int)] w fun e w' => RefInt w w' e (v / ((2 ^ n : Nat) : Int)) := by
  obtain ⟨W, hT⟩ := One2.mk' w true ao len cap
  have hsz := hT.size
  have hR := hx.later hT.below
  have HE : Hid (v / ((2 ^ n : Nat) : Int) = sgn true (v.natAbs / 2 ^ n)) := by have h := right_math hx.sg (2 ^ n) (Nat.pow_pos (by decide)); rw [if_neg (by simp [hr])] at h; exact h
  have HC : Hid (cmpI ((v.natAbs / 2 ^ n * 2 ^ n : Nat) : Int) (v.natAbs : Int) = 0) := cmpI_eq (by have := Nat.div_add_mod v.natAbs (2 ^ n); rw [hr, Nat.mul_comm] at this; omega)
  clear hr
  have HD : Hid ((mag (v.natAbs / 2 ^ n)).length ≤ len ∧ (v.natAbs / 2 ^ n = 0 ∨ n ≤ 100000)) := ⟨by rw [hx.row.hlen]; exact mag_len_mono (Nat.div_le_self _ _), down_small hx.row.hlen hl⟩
  clear hx
  have KS : Hid (∀ w' : World, Below W.heap.size W w' → (Below W.heap.size W w' ∧ w'.cell? ⟨w.heap.size, 0, none⟩ = some (.bool true) ∧ w'.cell? ⟨w.heap.size, 1, none⟩ = some (.slice ao len cap))) := fun w' h => ⟨h, (hT.a.later h (by omega)).1, (hT.a.later h (by omega)).2⟩
  go_enter Try.func7, Try.ntmps7
  go_wp2_with (go_at_call 19; rw [← hT.eq]; refine (down2_le ao len cap n v.natAbs _ hR.row (by omega) hn).mono ?_; rintro e w1 ⟨o1, l1, c1, rfl, ho1, hb1⟩; have hl1 : l1 ≤ len := (by rw [ho1.row.hlen]; exact HD.out.1))
  go_region_held3 (fun w' => (Below W.heap.size W w' ∧ w'.cell? ⟨w.heap.size, 0, none⟩ = some (.bool true) ∧ w'.cell? ⟨w.heap.size, 1, none⟩ = some (.slice ao len cap)))
    (first
      | exact KS.out _ hb1.drew
      | exact KS.out _ (bnext hb1.drew (by assumption))
      | exact KS.out _ (bnext (And.left (by assumption)) (by assumption))
      | assumption)
    (first
      | (go_at_call 18; refine (up2_right o1 l1 c1 n (v.natAbs / 2 ^ n) _ (ho1.row.later (Below.refl _ _).drew) (by omega) HD.out.2).mono ?_; rintro e w2 ⟨o2, l2, c2, rfl, ho2, hb2⟩; have hl2 : l2 ≤ len := (by rw [ho2.row.hlen, hR.row.hlen]; exact mag_len_mono (Nat.div_mul_le_self _ _)))
      | (go_at_call 20; refine (ncmp_at o2 ao l2 c2 len cap (v.natAbs / 2 ^ n * 2 ^ n) v.natAbs _ ho2.row (hR.row.later (bnext hb1.drew hb2)) (by omega) (by omega) 0 HC.out).mono ?_; rintro e w3 ⟨rfl, hb3⟩; have hbA : Below W.heap.size W w3 := bnext (bnext hb1.drew hb2) hb3; have hbB : Below w1.heap.size w1 w3 := bnext (bnext (Below.refl _ _).drew hb2) hb3; obtain ⟨p0, p1⟩ := hT.a.later hbA (by omega)))
  go_wp2_with (go_at_call 17; refine (made_any true o1 l1 c1 _ (by omega)).mono ?_; rintro e w4 ⟨rfl, hb4⟩; obtain ⟨g5, g3, g4⟩ := hT.r.later (bnext hbA hb4) (by omega))
  exact bodyPost_ret (v := .agg #[.bool (true && decide (0 < l1)), .slice o1 l1 c1]) (by simp [results, Try.results7, go_sem, g3, g4]) rfl
    (RefInt.ret (((ho1.row.later hbB).later hb4).kept ⟨g5, g3, g4⟩ _ _) HE.out (below_store (bnext hT.below (bnext hbA hb4)) (by omega) _ _))

set_option maxRecDepth 100000 in
set_option maxHeartbeats 1000000 in
theorem rright_odd (ao : Option Addr) (len cap n : Nat) (v : Int) (w : World) (hx : IntAt w true ao len cap v) (hl : len ≤ 1000) (hn : n ≤ 9223372036854775807) (hr : v.natAbs % 2 ^ n ≠ 0) :
    Calls Try.prog 7 #[.agg #[.bool true, .slice ao len cap], .int .i64 (n : Int)] w fun e w' => RefInt w w' e (v / ((2 ^ n : Nat) : Int)) := by
  obtain ⟨W, hT⟩ := One2.mk' w true ao len cap
  have hsz := hT.size
  have hR := hx.later hT.below
  have HE : Hid (v / ((2 ^ n : Nat) : Int) = sgn true (v.natAbs / 2 ^ n + 1)) := by have h := right_math hx.sg (2 ^ n) (Nat.pow_pos (by decide)); rw [if_pos ⟨rfl, hr⟩] at h; exact h
  have HC : Hid (cmpI ((v.natAbs / 2 ^ n * 2 ^ n : Nat) : Int) (v.natAbs : Int) = -1) := cmpI_lt (by have := Nat.div_add_mod v.natAbs (2 ^ n); rw [Nat.mul_comm] at this; omega)
  clear hr
  have HD : Hid ((mag (v.natAbs / 2 ^ n)).length ≤ len ∧ (v.natAbs / 2 ^ n = 0 ∨ n ≤ 100000)) := ⟨by rw [hx.row.hlen]; exact mag_len_mono (Nat.div_le_self _ _), down_small hx.row.hlen hl⟩
  clear hx
  have KS : Hid (∀ w' : World, Below W.heap.size W w' → (Below W.heap.size W w' ∧ w'.cell? ⟨w.heap.size, 0, none⟩ = some (.bool true) ∧ w'.cell? ⟨w.heap.size, 1, none⟩ = some (.slice ao len cap))) := fun w' h => ⟨h, (hT.a.later h (by omega)).1, (hT.a.later h (by omega)).2⟩
  go_enter Try.func7, Try.ntmps7
  go_wp2_with (go_at_call 19; rw [← hT.eq]; refine (down2_le ao len cap n v.natAbs _ hR.row (by omega) hn).mono ?_; rintro e w1 ⟨o1, l1, c1, rfl, ho1, hb1⟩; have hl1 : l1 ≤ len := (by rw [ho1.row.hlen]; exact HD.out.1))
  go_region_held3 (fun w' => (Below W.heap.size W w' ∧ w'.cell? ⟨w.heap.size, 0, none⟩ = some (.bool true) ∧ w'.cell? ⟨w.heap.size, 1, none⟩ = some (.slice ao len cap)))
    (first
      | exact KS.out _ hb1.drew
      | exact KS.out _ (bnext hb1.drew (by assumption))
      | exact KS.out _ (bnext (And.left (by assumption)) (by assumption))
      | assumption)
    (first
      | (go_at_call 18; refine (up2_right o1 l1 c1 n (v.natAbs / 2 ^ n) _ (ho1.row.later (Below.refl _ _).drew) (by omega) HD.out.2).mono ?_; rintro e w2 ⟨o2, l2, c2, rfl, ho2, hb2⟩; have hl2 : l2 ≤ len := (by rw [ho2.row.hlen, hR.row.hlen]; exact mag_len_mono (Nat.div_mul_le_self _ _)))
      | (go_at_call 20; refine (ncmp_at o2 ao l2 c2 len cap (v.natAbs / 2 ^ n * 2 ^ n) v.natAbs _ ho2.row (hR.row.later (bnext hb1.drew hb2)) (by omega) (by omega) (-1) HC.out).mono ?_; rintro e w3 ⟨rfl, hb3⟩; have hbA : Below W.heap.size W w3 := bnext (bnext hb1.drew hb2) hb3; have hbB : Below w1.heap.size w1 w3 := bnext (bnext (Below.refl _ _).drew hb2) hb3; obtain ⟨p0, p1⟩ := hT.a.later hbA (by omega)))
  go_wp2_with (first
    | (go_at_call 22; refine (nof_at 1 1 _ rfl (by decide)).mono ?_; rintro e w5 ⟨o5, l5, c5, rfl, ho5, hb5⟩; have hl5 : l5 ≤ 1 := (by rw [ho5.row.hlen]; exact mag_one_len))
    | (go_at_call 21; refine (nplus_any o1 o5 l1 c1 l5 c5 (v.natAbs / 2 ^ n) 1 _ ((ho1.row.later hbB).later hb5) ho5.row (by omega) (by omega)).mono ?_; rintro e w6 ⟨o6, l6, c6, rfl, ho6, hb6⟩; have hl6 : l6 ≤ 2000 := (by rw [ho6.row.hlen]; have q1 := mag_len_add (v.natAbs / 2 ^ n) 1; have q2 := mag_one_len; have q3 := HD.out.1; omega); clear p0 p1; obtain ⟨p0, p1⟩ := hT.a.later (bnext (bnext hbA hb5) hb6) (by omega))
    | (go_at_call 17; refine (made_any true o6 l6 c6 _ (by omega)).mono ?_; rintro e w4 ⟨rfl, hb4⟩; obtain ⟨g5, g3, g4⟩ := hT.r.later (bnext (bnext (bnext hbA hb5) hb6) hb4) (by omega)))
  exact bodyPost_ret (v := .agg #[.bool (true && decide (0 < l6)), .slice o6 l6 c6]) (by simp [results, Try.results7, go_sem, g3, g4]) rfl
    (RefInt.ret ((ho6.row.later hb4).kept ⟨g5, g3, g4⟩ _ _) HE.out (below_store (bnext hT.below (bnext (bnext (bnext hbA hb5) hb6) hb4)) (by omega) _ _))

theorem rright_any (neg : Bool) (ao : Option Addr) (len cap n : Nat) (v : Int) (w : World) (hx : IntAt w neg ao len cap v) (hl : len ≤ 1000) (hn : n ≤ 9223372036854775807) :
    Calls Try.prog 7 #[.agg #[.bool neg, .slice ao len cap], .int .i64 (n : Int)] w fun e w' => RefInt w w' e (v / ((2 ^ n : Nat) : Int)) := by
  cases neg
  · exact rright_pos ao len cap n v w hx hl hn
  · by_cases hr : v.natAbs % 2 ^ n = 0
    · exact rright_even ao len cap n v w hx hl hn hr
    · exact rright_odd ao len cap n v w hx hl hn hr
end Go.Proofs.Ytmjbmgjegiimfaa
