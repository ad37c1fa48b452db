/-
  Walks: plus, minus.
-/
import Derived.Test.YtnodcfeimiimbaaDoorW2
import Derived.Test.YtnodcfeimiimbaaDoorW3
import Derived.Test.YtnodcfeimiimbaaDoorW4
import Derived.Test.YtnodcfeimiimbaaDoorW5
namespace Go.Proofs.YtnodcfeimiimbaaDoor
open Go.RowKit
set_option linter.unusedVariables false
set_option linter.unusedSimpArgs false

/-- a whole block summed into: nothing is carried out of it -/
def SumAll (w w' : World) (e : Ending) (g n : Nat) (T : Int) : Prop :=
  ∃ c L', e = .returned (.int .u64 c) ∧ Blk w' g .u64 54 L' ∧ L'.length = n ∧ Wd 18446744073709551616 L' ∧ val 18446744073709551616 L' = T ∧ Touch g w w'
theorem Summed.all {s : Int} {w w' : World} {e : Ending} {g n : Nat} {L ys : List Int} {T : Int} (h : Summed s w w' e g 0 n L ys) (hs : s = 1 ∨ s = -1) (hn : n = L.length) (hT : T = val 18446744073709551616 L + s * val 18446744073709551616 ys) (h0 : 0 ≤ T) (h1 : T < 18446744073709551616 ^ n) : SumAll w w' e g n T := by
  obtain ⟨c, L', he, hb, hl, hw, _, hc0, hc1, hV, hto⟩ := h
  refine ⟨c, L', he, hb, by omega, hw, ?_, hto⟩
  rw [V_all _ (by omega), V_all _ hn] at hV
  have a1 := val_nonneg (q := 18446744073709551616) (by decide) hw
  have a2 := val_lt (q := 18446744073709551616) (by decide) hw
  have e1 : L'.length = n := by omega
  rw [e1] at a2
  rw [← hT] at hV
  have hc : c = 0 ∨ c = 1 := by omega
  obtain ⟨Q, hQ⟩ : ∃ Q : Int, (18446744073709551616 : Int) ^ n = Q := ⟨_, rfl⟩
  rw [hQ] at hV a2 h1
  rcases hc with rfl | rfl <;> rcases hs with rfl | rfl <;> omega

theorem mag_len_lt {n : Nat} {l : Nat} (h : l = (mag n).length) : (n : Int) < 18446744073709551616 ^ l := by
  have := val_lt (q := 18446744073709551616) (by decide) (mag_wd n)
  rw [mag_val, ← h] at this; exact this
theorem mag_len_mono {a b : Nat} (h : b ≤ a) : (mag b).length ≤ (mag a).length := by
  by_cases hlt : (mag a).length < (mag b).length
  · have := val_lt_of_len (q := 18446744073709551616) (by decide) (mag_wd a) (mag_wd b) (mag_can b) hlt
    rw [mag_val, mag_val] at this; omega
  · omega
theorem mag_len_le {n k : Nat} (h : (n : Int) < 18446744073709551616 ^ k) : (mag n).length ≤ k := by
  by_cases e : mag n = []
  · rw [e]; exact Nat.zero_le _
  · have h1 := val_ge (q := 18446744073709551616) (by decide) (mag_wd n) (mag_can n) e
    rw [mag_val] at h1
    by_cases hk : (mag n).length ≤ k
    · exact hk
    · have h2 := pow_mono' (q := 18446744073709551616) (by decide) (show k ≤ (mag n).length - 1 by omega)
      omega
theorem mag_len_add (a b : Nat) : (mag (a + b)).length ≤ (mag a).length + (mag b).length + 1 := by
  have h1 := mag_len_lt (n := a) rfl
  have h2 := mag_len_lt (n := b) rfl
  apply mag_len_le
  have h3 := pow_mono' (q := 18446744073709551616) (by decide) (show (mag a).length ≤ (mag a).length + (mag b).length by omega)
  have h4 := pow_mono' (q := 18446744073709551616) (by decide) (show (mag b).length ≤ (mag a).length + (mag b).length by omega)
  rw [Int.pow_succ]; omega
theorem Trimmed.natOwn {w0 w : World} {ao : Option Addr} {n cap : Nat} {L : List Int} {e : Ending} {N : Nat} (h : Trimmed w .u64 ao n cap L e) (ho : Own w0.heap.size w .u64 54 ao n cap L) (hW : Wd 18446744073709551616 L) (hv : val 18446744073709551616 L = N) (hB : Below w0.heap.size w0 w) : NewNat w0 w e N := by
  obtain ⟨ao', k, cap', hk, he, hr, hc, hval, hor⟩ := h
  have hm : mag N = L.take k := mag_of (hW.take k) hc (by rw [hval, hv])
  refine ⟨ao', k, cap', he, ?_, hB⟩
  rw [hm]
  rcases hor with ⟨rfl, rfl⟩ | ⟨rfl, rfl⟩
  · exact ho.take hk
  · exact Or.inl ⟨rfl, rfl, hr.hnil rfl, by simp⟩
theorem Trimmed.nat {w0 w : World} {g n : Nat} {L : List Int} {e : Ending} {N : Nat} (h : Trimmed w .u64 (some ⟨g, 0, none⟩) n n L e) (hb : Blk w g .u64 54 L) (hn : n = L.length) (hg : w0.heap.size ≤ g) (hW : Wd 18446744073709551616 L) (hv : val 18446744073709551616 L = N) (hB : Below w0.heap.size w0 w) : NewNat w0 w e N := by
  obtain ⟨ao', k, cap', hk, he, hr, hc, hval, hor⟩ := h
  have hm : mag N = L.take k := mag_of (hW.take k) hc (by rw [hval, hv])
  refine ⟨ao', k, cap', he, ?_, hB⟩
  rw [hm]
  rcases hor with ⟨rfl, rfl⟩ | ⟨rfl, rfl⟩
  · exact (Own.whole hb hg hn).take hk
  · refine Or.inl ⟨rfl, rfl, ?_, by simp⟩
    exact hr.hnil rfl
theorem apart_new {w : World} {k : IntKind} {bo : Option Addr} {m cb g : Nat} {ys : List Int} (h : RowAt w k bo m cb ys) (hg : w.heap.size ≤ g) {off n : Nat} : Apart bo m g off n := by
  intro b o hbo t ht k hk e
  obtain ⟨b', o', h1, h2, _⟩ := h.get (by omega)
  rw [h1] at hbo
  simp only [Option.some.injEq, Addr.mk.injEq] at hbo
  omega

set_option maxRecDepth 100000 in
set_option maxHeartbeats 1000000 in
theorem plus_any (ao bo : Option Addr) (la ca lb cb : Nat) (a b : Nat) (w : World) (hx : RowAt w .u64 ao la ca (mag a)) (hy : RowAt w .u64 bo lb cb (mag b)) (hl : la ≤ 4294967296) (hl' : lb ≤ 4294967296) :
    Calls Tryd.prog 30 #[.slice ao la ca, .slice bo lb cb] w fun e w' => NewNat w w' e (a + b) := by
  obtain ⟨i0, hi, hz0, hz1, hz2⟩ := info_parts info64
  by_cases hlt : la < lb
  · have _h := hlt
    have HX : Hid (RowAt w .u64 bo lb cb (mag b) ∧ RowAt w .u64 ao la ca (mag a)) := ⟨hy, hx⟩
    have b1 : Hid (i0.bytes * (lb + 1) ≤ 281474976710656) := by show _ ≤ _; rw [hz2]; omega
    have b2 : Hid (lb + 1 ≤ maxLen) := by show _ ≤ _; unfold maxLen; omega
    have b3 : Hid (((mag b).map (Value.int .u64)).length = Nat.min lb (lb + 1)) := by
      show _ = _; rw [List.length_map, ← HX.out.1.hlen]; exact (Nat.min_eq_left (by omega)).symm
    have b4 : Hid (0 + ((mag b).map (Value.int .u64)).length ≤ ((List.replicate (lb + 1) (0 : Int)).map (Value.int .u64)).length) := by
      show _ ≤ _; simp only [List.length_map, List.length_replicate, ← HX.out.1.hlen]; omega
    have b5 : Hid (splice (List.replicate (lb + 1) (0 : Int)) 0 (mag b) = mag b ++ [0]) := by
      show _ = _; simp [splice, ← HX.out.1.hlen]
    have b6 : Hid (((mag b) ++ [0]).length = lb + 1) := by show _ = _; simp [← HX.out.1.hlen]
    have b7 : Hid (Wd 18446744073709551616 (mag b ++ [0])) := (mag_wd _).append (Wd.one (by decide))
    have b8 : Hid (((a + b : Nat) : Int) = val 18446744073709551616 (mag b ++ [0]) + 1 * val 18446744073709551616 (mag a)) := by
      show _ = _; rw [val_snoc, mag_val, mag_val]; first | (simp; done) | (simp; omega)
    have b9 : Hid (((a + b : Nat) : Int) < 18446744073709551616 ^ (lb + 1)) := by
      show _ < _
      have t1 := mag_len_lt HX.out.1.hlen
      have t2 := mag_len_lt HX.out.2.hlen
      have t3 := pow_mono' (q := 18446744073709551616) (by decide) (show la ≤ lb by omega)
      rw [Int.pow_succ]; omega
    clear hy hx
    go_enter Tryd.func30, Tryd.ntmps30
    go_wp2_with (first
      | (at_make; refine wpList_make_full _ rfl (.tmp 15) (.tmp 15) 28 rfl w.heap.size 54 i0 (.int .u64 0) 1 Tryd.underlying28 hi hz0 hz1 .i64 .i64 _ _ (lb + 1) rfl rfl (by omega) (by omega) b1.out b2.out (Nat.le_refl _) ?_; intro w1 hown1 hgrow1)
      | (have _t := hown1; refine wpList_copy_splice rfl (.tmp 17) (.tmp 18) 28 28 rfl 54 Tryd.underlying28 size64 _ _ _ _ _ _ rfl rfl w.heap.size 0 ((List.replicate (lb + 1) (0 : Int)).map (Value.int .u64)) 54 (made_blk hown1) ((mag b).map (Value.int .u64)) b3.out (fun hp => ⟨rfl, (HX.out.1.later (grown_below hgrow1)).src (by rw [List.length_map, ← HX.out.1.hlen] at hp; exact hp)⟩) b4.out (ints_oneCell _ _) w.heap.size w (grown_below hgrow1) (Nat.le_refl _) ?_; intro w2 hg2 hb2)
      | (go_at_call 47; refine (addInto_any w.heap.size 0 (lb + 1) (lb + 1) ao la ca (mag b ++ [0]) (mag a) w2 (b5.out ▸ blk_splice hg2.out) b7.out (by rw [b6.out]; omega) (Nat.le_refl _) (by omega) (HX.out.2.later hb2) (mag_wd _) (by omega) (apart_new HX.out.2 (Nat.le_refl _))).mono ?_; intro e w3 hS; obtain ⟨c, L', rfl, hb3, hl3, hw3, hv3, hto3⟩ := hS.all (T := ((a + b : Nat) : Int)) (Or.inl rfl) b6.out.symm b8.out (by omega) b9.out; clear hS)
      | (go_at_call 48; refine (trim_any (some ⟨w.heap.size, 0, none⟩) (lb + 1) (lb + 1) L' w3 (Own.whole hb3 (Nat.le_refl _) hl3.symm).row (by omega)).mono ?_; rintro e w4 ⟨hT, rfl⟩; obtain ⟨ao', n', cap', hn', rfl, hrest⟩ := hT))
    go_ret
    exact Trimmed.nat (L := L') ⟨ao', n', cap', hn', rfl, hrest⟩ hb3 hl3.symm (Nat.le_refl _) hw3 hv3 (hb2.trans (hto3.below (Nat.le_refl _)))
  · have _h := hlt
    have HX : Hid (RowAt w .u64 ao la ca (mag a) ∧ RowAt w .u64 bo lb cb (mag b)) := ⟨hx, hy⟩
    have b1 : Hid (i0.bytes * (la + 1) ≤ 281474976710656) := by show _ ≤ _; rw [hz2]; omega
    have b2 : Hid (la + 1 ≤ maxLen) := by show _ ≤ _; unfold maxLen; omega
    have b3 : Hid (((mag a).map (Value.int .u64)).length = Nat.min la (la + 1)) := by
      show _ = _; rw [List.length_map, ← HX.out.1.hlen]; exact (Nat.min_eq_left (by omega)).symm
    have b4 : Hid (0 + ((mag a).map (Value.int .u64)).length ≤ ((List.replicate (la + 1) (0 : Int)).map (Value.int .u64)).length) := by
      show _ ≤ _; simp only [List.length_map, List.length_replicate, ← HX.out.1.hlen]; omega
    have b5 : Hid (splice (List.replicate (la + 1) (0 : Int)) 0 (mag a) = mag a ++ [0]) := by
      show _ = _; simp [splice, ← HX.out.1.hlen]
    have b6 : Hid (((mag a) ++ [0]).length = la + 1) := by show _ = _; simp [← HX.out.1.hlen]
    have b7 : Hid (Wd 18446744073709551616 (mag a ++ [0])) := (mag_wd _).append (Wd.one (by decide))
    have b8 : Hid (((a + b : Nat) : Int) = val 18446744073709551616 (mag a ++ [0]) + 1 * val 18446744073709551616 (mag b)) := by
      show _ = _; rw [val_snoc, mag_val, mag_val]; first | (simp; done) | (simp; omega)
    have b9 : Hid (((a + b : Nat) : Int) < 18446744073709551616 ^ (la + 1)) := by
      show _ < _
      have t1 := mag_len_lt HX.out.1.hlen
      have t2 := mag_len_lt HX.out.2.hlen
      have t3 := pow_mono' (q := 18446744073709551616) (by decide) (show lb ≤ la by omega)
      rw [Int.pow_succ]; omega
    clear hx hy
    go_enter Tryd.func30, Tryd.ntmps30
    go_wp2_with (first
      | (at_make; refine wpList_make_full _ rfl (.tmp 15) (.tmp 15) 28 rfl w.heap.size 54 i0 (.int .u64 0) 1 Tryd.underlying28 hi hz0 hz1 .i64 .i64 _ _ (la + 1) rfl rfl (by omega) (by omega) b1.out b2.out (Nat.le_refl _) ?_; intro w1 hown1 hgrow1)
      | (have _t := hown1; refine wpList_copy_splice rfl (.tmp 17) (.tmp 18) 28 28 rfl 54 Tryd.underlying28 size64 _ _ _ _ _ _ rfl rfl w.heap.size 0 ((List.replicate (la + 1) (0 : Int)).map (Value.int .u64)) 54 (made_blk hown1) ((mag a).map (Value.int .u64)) b3.out (fun hp => ⟨rfl, (HX.out.1.later (grown_below hgrow1)).src (by rw [List.length_map, ← HX.out.1.hlen] at hp; exact hp)⟩) b4.out (ints_oneCell _ _) w.heap.size w (grown_below hgrow1) (Nat.le_refl _) ?_; intro w2 hg2 hb2)
      | (go_at_call 47; refine (addInto_any w.heap.size 0 (la + 1) (la + 1) bo lb cb (mag a ++ [0]) (mag b) w2 (b5.out ▸ blk_splice hg2.out) b7.out (by rw [b6.out]; omega) (Nat.le_refl _) (by omega) (HX.out.2.later hb2) (mag_wd _) (by omega) (apart_new HX.out.2 (Nat.le_refl _))).mono ?_; intro e w3 hS; obtain ⟨c, L', rfl, hb3, hl3, hw3, hv3, hto3⟩ := hS.all (T := ((a + b : Nat) : Int)) (Or.inl rfl) b6.out.symm b8.out (by omega) b9.out; clear hS)
      | (go_at_call 48; refine (trim_any (some ⟨w.heap.size, 0, none⟩) (la + 1) (la + 1) L' w3 (Own.whole hb3 (Nat.le_refl _) hl3.symm).row (by omega)).mono ?_; rintro e w4 ⟨hT, rfl⟩; obtain ⟨ao', n', cap', hn', rfl, hrest⟩ := hT))
    go_ret
    exact Trimmed.nat (L := L') ⟨ao', n', cap', hn', rfl, hrest⟩ hb3 hl3.symm (Nat.le_refl _) hw3 hv3 (hb2.trans (hto3.below (Nat.le_refl _)))

set_option maxRecDepth 100000 in
set_option maxHeartbeats 1000000 in
theorem minus_any (ao bo : Option Addr) (la ca lb cb : Nat) (a b : Nat) (w : World) (hx : RowAt w .u64 ao la ca (mag a)) (hy : RowAt w .u64 bo lb cb (mag b)) (hl : la ≤ 4294967296) (hle : b ≤ a) :
    Calls Tryd.prog 57 #[.slice ao la ca, .slice bo lb cb] w fun e w' => NewNat w w' e (a - b) := by
  obtain ⟨i0, hi, hz0, hz1, hz2⟩ := info_parts info64
  have HX : Hid (RowAt w .u64 ao la ca (mag a) ∧ RowAt w .u64 bo lb cb (mag b) ∧ b ≤ a) := ⟨hx, hy, hle⟩
  have hll : lb ≤ la := by rw [hx.hlen, hy.hlen]; exact mag_len_mono hle
  have b1 : Hid (i0.bytes * la ≤ 281474976710656) := by show _ ≤ _; rw [hz2]; omega
  have b2 : Hid (la ≤ maxLen) := by show _ ≤ _; unfold maxLen; omega
  have b3 : Hid (((mag a).map (Value.int .u64)).length = Nat.min la la) := by
    show _ = _; rw [List.length_map, ← HX.out.1.hlen]; exact (Nat.min_self _).symm
  have b4 : Hid (0 + ((mag a).map (Value.int .u64)).length ≤ ((List.replicate la (0 : Int)).map (Value.int .u64)).length) := by
    show _ ≤ _; simp only [List.length_map, List.length_replicate, ← HX.out.1.hlen]; omega
  have b5 : Hid (splice (List.replicate la (0 : Int)) 0 (mag a) = mag a) := by
    show _ = _; simp [splice, ← HX.out.1.hlen]
  have b8 : Hid (((a - b : Nat) : Int) = val 18446744073709551616 (mag a) + (-1) * val 18446744073709551616 (mag b)) := by
    show _ = _; rw [mag_val, mag_val]; omega
  have b9 : Hid (((a - b : Nat) : Int) < 18446744073709551616 ^ la) := by
    show _ < _
    have t1 := mag_len_lt HX.out.1.hlen
    omega
  clear hx hy hle
  go_enter Tryd.func57, Tryd.ntmps57
  go_wp2_with (first
    | (at_make; refine wpList_make_full _ rfl (.tmp 7) (.tmp 7) 28 rfl w.heap.size 54 i0 (.int .u64 0) 1 Tryd.underlying28 hi hz0 hz1 .i64 .i64 _ _ la rfl rfl rfl rfl b1.out b2.out (Nat.le_refl _) ?_; intro w1 hown1 hgrow1)
    | (have _t := hown1; refine wpList_copy_splice rfl (.tmp 9) (.tmp 10) 28 28 rfl 54 Tryd.underlying28 size64 _ _ _ _ _ _ rfl rfl w.heap.size 0 ((List.replicate la (0 : Int)).map (Value.int .u64)) 54 (made_blk hown1) ((mag a).map (Value.int .u64)) b3.out (fun hp => ⟨rfl, (HX.out.1.later (grown_below hgrow1)).src (by rw [List.length_map, ← HX.out.1.hlen] at hp; exact hp)⟩) b4.out (ints_oneCell _ _) w.heap.size w (grown_below hgrow1) (Nat.le_refl _) ?_; intro w2 hg2 hb2)
    | (go_at_call 68; refine (subInto_any w.heap.size 0 la la bo lb cb (mag a) (mag b) w2 (b5.out ▸ blk_splice hg2.out) (mag_wd _) (by rw [← HX.out.1.hlen]; omega) (Nat.le_refl _) (by omega) (HX.out.2.1.later hb2) (mag_wd _) hll (apart_new HX.out.2.1 (Nat.le_refl _))).mono ?_; intro e w3 hS; obtain ⟨c, L', rfl, hb3, hl3, hw3, hv3, hto3⟩ := hS.all (T := ((a - b : Nat) : Int)) (Or.inr rfl) HX.out.1.hlen b8.out (by omega) b9.out; clear hS)
    | (go_at_call 48; refine (trim_any (some ⟨w.heap.size, 0, none⟩) la la L' w3 (Own.whole hb3 (Nat.le_refl _) hl3.symm).row (by omega)).mono ?_; rintro e w4 ⟨hT, rfl⟩; obtain ⟨ao', n', cap', hn', rfl, hrest⟩ := hT))
  go_ret
  exact Trimmed.nat (L := L') ⟨ao', n', cap', hn', rfl, hrest⟩ hb3 hl3.symm (Nat.le_refl _) hw3 hv3 (hb2.trans (hto3.below (Nat.le_refl _)))

end Go.Proofs.YtnodcfeimiimbaaDoor
