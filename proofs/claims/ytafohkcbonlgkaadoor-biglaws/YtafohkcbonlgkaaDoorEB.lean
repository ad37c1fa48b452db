/-
  Walks: takeOut.
-/
import Derived.Test.YtafohkcbonlgkaaDoorEA
namespace Go.Proofs.YtafohkcbonlgkaaDoor
open Go.RowKit
set_option linter.unusedVariables false
set_option linter.unusedSimpArgs false

set_option maxRecDepth 100000 in
set_option maxHeartbeats 2000000 in
theorem takeOut_any (g off cap : Nat) (bo : Option Addr) (m cb : Nat) (L ys : List Int) (w : World) (hb : Blk w g .u64 67 L) (hW : Wd 18446744073709551616 L) (hn : off + (m + 2 + 1) ≤ L.length) (hnc : m + 2 + 1 ≤ cap) (hcap : cap ≤ 4611686018427387904)
    (hy : RowAt w .u64 bo (m + 2) cb ys) (hyW : Wd 18446744073709551616 ys) (hap : Apart bo (m + 2) g off (m + 2 + 1)) (htop : 9223372036854775808 ≤ dig ys (m + 1)) (hlt : V 18446744073709551616 L off (m + 2 + 1) < val 18446744073709551616 ys * 18446744073709551616) :
    Calls Tryd.prog 105 #[.slice (some ⟨g, off, none⟩) (m + 2 + 1 : Nat) cap, .slice bo (m + 2 : Nat) cb] w fun e w' => TakenOut w w' e g off (m + 2) L ys := by
  have hlen := hy.hlen
  obtain ⟨b', o', rfl, hb', hc'⟩ := hy.get (by omega)
  have p1 := hc' (m + 2 - 1) (by omega)
  have p0 := hc' (m + 2 - 2) (by omega)
  have q2 := hb.cell (j := off + (m + 2)) (by omega)
  have q1 := hb.cell (j := off + (m + 2 - 1)) (by omega)
  have q0 := hb.cell (j := off + (m + 2 - 2)) (by omega)
  rw [show m + 2 - 1 = m + 1 by omega] at p1 q1
  rw [show m + 2 - 2 = m by omega] at p0 q0
  obtain ⟨u2, h2⟩ : ∃ x, dig L (off + (m + 2)) = x := ⟨_, rfl⟩
  obtain ⟨u1, h1⟩ : ∃ x, dig L (off + (m + 1)) = x := ⟨_, rfl⟩
  obtain ⟨u0, h0⟩ : ∃ x, dig L (off + m) = x := ⟨_, rfl⟩
  obtain ⟨v1, k1⟩ : ∃ x, dig ys (m + 1) = x := ⟨_, rfl⟩
  obtain ⟨v0, k0⟩ : ∃ x, dig ys m = x := ⟨_, rfl⟩
  have bu2 := hW.dig (by decide) (off + (m + 2)); rw [h2] at bu2
  have bu1 := hW.dig (by decide) (off + (m + 1)); rw [h1] at bu1
  have bu0 := hW.dig (by decide) (off + m); rw [h0] at bu0
  have bv1 := hyW.dig (by decide) (m + 1); rw [k1] at bv1 htop
  have bv0 := hyW.dig (by decide) m; rw [k0] at bv0
  rw [h2] at q2; rw [h1] at q1; rw [h0] at q0; rw [k1] at p1; rw [k0] at p0
  obtain ⟨p, hp⟩ : ∃ p : Int, (18446744073709551616 : Int) ^ m = p := ⟨_, rfl⟩
  have hpp : 0 < p := by rw [← hp]; exact Int.pow_pos (by decide)
  have eN : V 18446744073709551616 L off (m + 2 + 1) = V 18446744073709551616 L off m + p * ((u2 * 18446744073709551616 + u1) * 18446744073709551616 + u0) := by
    rw [show m + 2 + 1 = m + 3 from rfl, V_split, V_three, hp, show off + m + 2 = off + (m + 2) by omega, show off + m + 1 = off + (m + 1) by omega, h2, h1, h0]
  have eM : val 18446744073709551616 ys = V 18446744073709551616 ys 0 m + p * (v1 * 18446744073709551616 + v0) := by
    rw [← V_all _ hlen, V_split, V_two, hp, show 0 + m + 1 = m + 1 by omega, show 0 + m = m by omega, k1, k0]
  have a0 := V_nonneg (q := 18446744073709551616) (by decide) hW off m
  have a1 := V_lt (q := 18446744073709551616) (by decide) hW off m
  have c0 := V_nonneg (q := 18446744073709551616) (by decide) hyW 0 m
  have c1 := V_lt (q := 18446744073709551616) (by decide) hyW 0 m
  rw [hp] at a1 c1
  have hle : u2 ≤ v1 := by
    by_cases h : u2 ≤ v1
    · exact h
    · have e1 : p * ((v1 + 1) * 18446744073709551616 * 18446744073709551616) ≤ p * ((u2 * 18446744073709551616 + u1) * 18446744073709551616 + u0) := Int.mul_le_mul_of_nonneg_left (by omega) (by omega)
      have e2 : p * (v1 * 18446744073709551616 + v0 + 1) ≤ p * ((v1 + 1) * 18446744073709551616) := Int.mul_le_mul_of_nonneg_left (by omega) (by omega)
      have e3 : p * ((v1 + 1) * 18446744073709551616 * 18446744073709551616) = p * ((v1 + 1) * 18446744073709551616) * 18446744073709551616 := by grind
      have e4 : p * (v1 * 18446744073709551616 + v0 + 1) = p * (v1 * 18446744073709551616 + v0) + p := by grind
      rw [eN, eM] at hlt
      omega
  obtain ⟨gd, hgc, hgd⟩ := guess_ex u2 u1 u0 v1 v0 bu2.1 hle bu1.1 bu1.2 bu0.1 bu0.2 bv1.1 bv1.2 bv0.1 bv0.2 (by omega)
  have hnear := guess_near hgd hpp a0 a1 c0 c1 eN eM bu0.1 (by omega) bv0.1 (by omega) hlt
  have HN : Hid (V 18446744073709551616 L off (m + 2 + 1) < (gd + 1) * val 18446744073709551616 ys ∧ (gd - 1) * val 18446744073709551616 ys ≤ V 18446744073709551616 L off (m + 2 + 1)) := hnear
  have hg0 := hgd.1
  have hg1 := hgd.2.1
  have HH : Hid (Blk w g .u64 67 L ∧ Wd 18446744073709551616 L ∧ off + (m + 2 + 1) ≤ L.length ∧ RowAt w .u64 (some ⟨b', o', none⟩) (m + 2) cb ys ∧ Wd 18446744073709551616 ys ∧ Apart (some ⟨b', o', none⟩) (m + 2) g off (m + 2 + 1) ∧ dig L (off + (m + 2)) = u2 ∧ m + 2 = ys.length) := ⟨hb, hW, hn, hy, hyW, hap, h2, hlen⟩
  have hap' : Hid (Apart (some ⟨b', o', none⟩) (m + 2) g off (m + 2)) := fun b o e t ht k hk e' => hap b o e t ht k (by omega) e'
  have HB : Hid (∀ n, Blk (w.drewN n) g .u64 67 L ∧ RowAt (w.drewN n) .u64 (some ⟨b', o', none⟩) (m + 2) cb ys) := fun n => ⟨hb, hy.later ⟨rfl, rfl, rfl, Nat.le_refl _, fun _ _ => rfl⟩⟩
  have hfz := hb.frozen (off + (m + 2))
  have hgs : g < w.heap.size := hb.lt
  obtain ⟨bu21, bu22⟩ := bu2
  clear hnear hgd eN eM a0 a1 c0 c1 hlt hle hp hpp hb hW hn hy hyW hap h2 hlen h1 h0 k1 k0 hc' bu1 bu0 bv1 bv0 htop
  by_cases hz : gd = 0
  · subst hz
    go_enter Tryd.func105, Tryd.ntmps105
    go_wp2
    go_quiet ((go_at_call 114; exact (hgc _).mono (fun _ _ h => ⟨h.1, quiet_more h.2⟩)))
    go_wp2
    go_ret
    exact ⟨0, L, rfl, HH.out.1, rfl, HH.out.2.1, fun _ _ => rfl, by decide, by simp, by have := HN.out.1; simpa using this, (Touch.refl _ _).drewN _⟩
  · have hz' : (gd == 0) = false := by simpa using hz
    go_enter Tryd.func105, Tryd.ntmps105
    go_wp2
    go_quiet ((go_at_call 114; exact (hgc _).mono (fun _ _ h => ⟨h.1, quiet_more h.2⟩)))
    go_wp2
    go_region_with ((go_at_call 115; refine (subTimes_any g off (m + 2) cap (some ⟨b', o', none⟩) (m + 2) cb L ys gd _ (HB.out _).1 HH.out.2.1 (by have := HH.out.2.2.1; omega) (by omega) hcap (HB.out _).2 HH.out.2.2.2.2.1 (Nat.le_refl _) hap'.out ⟨hg0, hg1⟩).mono ?_; rintro e w2 ⟨c, L1, rfl, hb2, hm2, ht2⟩; have HM : Hid (OffSt 18446744073709551616 L ys gd off (m + 2) c L1 ∧ Touch g w w2 ∧ Blk w2 g .u64 67 L1) := ⟨hm2, ((Touch.refl _ _).drewN _).trans ht2, hb2⟩; have hcz := hb2.cell (j := off + (m + 2)) (by have h1 := hm2.len; have h2 := HH.out.2.2.1; omega); rw [hm2.out _ (by omega), HH.out.2.2.2.2.2.2.1] at hcz; have hfz2 := hb2.frozen (off + (m + 2)); have hgs2 : g < w2.heap.size := hb2.lt; clear hm2 ht2 hb2))
    all_goals
      have HC : Hid (0 ≤ c ∧ c < 18446744073709551616) := ⟨HM.out.1.c0, HM.out.1.c1⟩
      have HR2 : Hid (RowAt w2 .u64 (some ⟨b', o', none⟩) (m + 2) cb ys) := row_touch HH.out.2.2.2.1 HH.out.1 HM.out.2.2 HM.out.2.1 hap'.out (fun j hj => HM.out.1.out j hj) HM.out.1.len
      by_cases hcc : u2 < c
      · have hg2 : 0 ≤ gd - 1 := by omega
        go_wp2_with (go_at_call 89; refine (addInto_any g off (m + 2) cap (some ⟨b', o', none⟩) (m + 2) cb L1 ys w2 HM.out.2.2 HM.out.1.wd (by have h1 := HM.out.1.len; have h2 := HH.out.2.2.1; omega) (by omega) hcap HR2.out HH.out.2.2.2.2.1 (Nat.le_refl _) hap'.out).mono ?_; rintro e w3 ⟨c2, L2, rfl, hb3, hl3, hw3, ho3, hc30, hc31, hV3, ht3⟩; have HT : Hid (L2.length = L1.length ∧ Wd 18446744073709551616 L2 ∧ (∀ j, j < off ∨ off + (m + 2) ≤ j → dig L2 j = dig L1 j) ∧ (V 18446744073709551616 L2 off (m + 2) + 1 * (c2 * 18446744073709551616 ^ (m + 2)) = V 18446744073709551616 L1 off (m + 2) + 1 * val 18446744073709551616 ys) ∧ Touch g w2 w3 ∧ Blk w3 g .u64 67 L2) := ⟨hl3, hw3, ho3, hV3, ht3, hb3⟩; have hcz3 := hb3.cell (j := off + (m + 2)) (by have h1 := HM.out.1.len; have h2 := HH.out.2.2.1; omega); have hfz3 := hb3.frozen (off + (m + 2)); have hgs3 : g < w3.heap.size := hb3.lt; clear hl3 hw3 ho3 hV3 ht3 hb3 hc30 hc31)
        go_ret
        have hfin := take_back HM.out.1 HH.out.2.2.2.2.2.2.2 HH.out.2.2.2.2.1 (by have := HH.out.2.2.1; omega) HN.out.2 (by rw [HH.out.2.2.2.2.2.2.1]; exact hcc) HT.out.1 HT.out.2.1 HT.out.2.2.2.1
        have hlen3 : off + (m + 2) < L2.length := by have h1 := HM.out.1.len; have h2 := HH.out.2.2.1; have h3 := HT.out.1; omega
        exact ⟨gd - 1, L2.set (off + (m + 2)) 0, ret_int rfl, HT.out.2.2.2.2.2.set _ _, by simp [HT.out.1, HM.out.1.len], HT.out.2.1.set _ (by decide), fun j hj => by rw [dig_set _ hlen3, if_neg (by omega), HT.out.2.2.1 j (by omega), HM.out.1.out j (by omega)], by omega, hfin.1, hfin.2, (HM.out.2.1.trans HT.out.2.2.2.2.1).set _ _⟩
      · go_wp2
        go_ret
        have hfin := take_right HM.out.1 HH.out.2.2.2.2.2.2.2 HH.out.2.2.2.2.1 (by have := HH.out.2.2.1; omega) HN.out.1 (by rw [HH.out.2.2.2.2.2.2.1]; omega)
        have hlen3 : off + (m + 2) < L1.length := by have h1 := HM.out.1.len; have h2 := HH.out.2.2.1; omega
        exact ⟨gd, L1.set (off + (m + 2)) 0, rfl, HM.out.2.2.set _ _, by simp [HM.out.1.len], HM.out.1.wd.set _ (by decide), fun j hj => by rw [dig_set _ hlen3, if_neg (by omega), HM.out.1.out j (by omega)], ⟨hg0, hg1⟩, hfin.1, hfin.2, HM.out.2.1.set _ _⟩
end Go.Proofs.YtafohkcbonlgkaaDoor
