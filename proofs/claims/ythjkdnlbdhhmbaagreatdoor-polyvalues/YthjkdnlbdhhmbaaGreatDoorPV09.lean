/-
  A pack of walks and facts: ED.
-/
import Derived.Test.YthjkdnlbdhhmbaaGreatDoorPV07
import Derived.Test.YthjkdnlbdhhmbaaGreatDoorPV08
set_option maxRecDepth 100000
set_option maxHeartbeats 40000000
set_option linter.unusedVariables false
set_option linter.unusedSimpArgs false
namespace Go.Proofs.YthjkdnlbdhhmbaaGreatDoor
open Go.RowKit
theorem quiet_more {w w' : World} {n : Nat} (h : ∃ m, w' = (w.drewN n).drewN m) : ∃ m, w' = w.drewN m := by
 obtain ⟨m, rfl⟩ := h
 exact ⟨n + m, by simp [World.drewN, Nat.add_assoc]⟩
theorem guess_near {u2 u1 u0 v1 v0 g p a b N M : Int} (hg : IsGuess u2 u1 u0 v1 v0 g) (hp : 0 < p) (ha : 0 ≤ a) (ha' : a < p) (hb : 0 ≤ b) (hb' : b < p) (hN : N = a + p * ((u2 * 18446744073709551616 + u1) * 18446744073709551616 + u0)) (hM : M = b + p * (v1 * 18446744073709551616 + v0))
  (hu0 : 0 ≤ u0) (hv1 : 1 ≤ v1) (hv0 : 0 ≤ v0) (hU : 0 ≤ (u2 * 18446744073709551616 + u1) * 18446744073709551616 + u0) (hlt : N < M * 18446744073709551616) : N < (g + 1) * M ∧ (g - 1) * M ≤ N := by
 obtain ⟨g0, g1, g2, g3⟩ := hg
 obtain ⟨D, hD⟩ : ∃ D, v1 * 18446744073709551616 + v0 = D := ⟨_, rfl⟩
 obtain ⟨U, hUe⟩ : ∃ U, (u2 * 18446744073709551616 + u1) * 18446744073709551616 + u0 = U := ⟨_, rfl⟩
 rw [hD] at g2 g3 hM; rw [hUe] at g2 g3 hN hU
 have hDq : 18446744073709551616 ≤ D := by omega
 constructor
 ·
  rcases g3 with h | h
  ·
   have e1 : p * (U + 1) ≤ p * ((g + 1) * D) := Int.mul_le_mul_of_nonneg_left (by omega) (by omega)
   have e2 : 0 ≤ (g + 1) * b := Int.mul_nonneg (by omega) hb
   have e3 : (g + 1) * M = (g + 1) * b + p * ((g + 1) * D) := by rw [hM]; grind
   have e4 : p * (U + 1) = p * U + p := by grind
   rw [e3]; omega
  ·
   have : (g + 1) * M = M * 18446744073709551616 := by rw [h]; omega
   omega
 ·
  by_cases hz : g = 0
  ·
   subst hz
   have e1 : 0 ≤ p * D := Int.mul_nonneg (by omega) (by omega)
   have e2 : 0 ≤ p * U := Int.mul_nonneg (by omega) hU
   omega
  ·
   have e1 : (g - 1) * b ≤ (g - 1) * p := Int.mul_le_mul_of_nonneg_left (by omega) (by omega)
   have e2 : (g - 1) * M = (g - 1) * b + p * ((g - 1) * D) := by rw [hM]; grind
   have e3 : (g - 1) * D = g * D - D := by grind
   have e4 : p * ((g - 1) * D + (g - 1)) ≤ p * U := Int.mul_le_mul_of_nonneg_left (by rw [e3]; omega) (by omega)
   have e5 : p * ((g - 1) * D + (g - 1)) = p * ((g - 1) * D) + (g - 1) * p := by grind
   rw [e2]; omega
theorem V_three (q : Int) (L : List Int) (off : Nat) : V q L off 3 = (dig L (off + 2) * q + dig L (off + 1)) * q + dig L off := by
 rw [show (3 : Nat) = 2 + 1 from rfl, V_cons, show (2 : Nat) = 1 + 1 from rfl, V_cons, show (1 : Nat) = 0 + 1 from rfl, V_cons, V_zero]
 simp only [Nat.add_assoc, Nat.reduceAdd]
 grind
theorem V_two (q : Int) (L : List Int) (off : Nat) : V q L off 2 = dig L (off + 1) * q + dig L off := by
 rw [show (2 : Nat) = 1 + 1 from rfl, V_cons, show (1 : Nat) = 0 + 1 from rfl, V_cons, V_zero]
 simp only [Nat.add_assoc, Nat.reduceAdd]
 grind
theorem V_top {q : Int} {L : List Int} {off n : Nat} (h : off + n < L.length) : V q (L.set (off + n) 0) off (n + 1) = V q L off n := by
 rw [V_succ, dig_set _ h, if_pos rfl]
 have : V q (L.set (off + n) 0) off n = V q L off n := V_congr fun j hj => by rw [dig_set _ h, if_neg (by omega)]
 rw [this]; simp
def TakenOut (w w' : World) (e : Ending) (g off n : Nat) (L ys : List Int) : Prop :=
 ∃ d L', e = .returned (.int .u64 d) ∧ Blk w' g .u64 60 L' ∧ L'.length = L.length ∧ Wd 18446744073709551616 L' ∧ (∀ j, j < off ∨ off + (n + 1) ≤ j → dig L' j = dig L j) ∧ (0 ≤ d ∧ d < 18446744073709551616) ∧
  V 18446744073709551616 L' off (n + 1) + d * val 18446744073709551616 ys = V 18446744073709551616 L off (n + 1) ∧ V 18446744073709551616 L' off (n + 1) < val 18446744073709551616 ys ∧ Touch g w w'
theorem take_right {L L1 ys : List Int} {off n : Nat} {gd c : Int} (hs : OffSt 18446744073709551616 L ys gd off n c L1) (hn : n = ys.length) (hy : Wd 18446744073709551616 ys) (hl : off + n < L.length) (hup : V 18446744073709551616 L off (n + 1) < (gd + 1) * val 18446744073709551616 ys)
  (hc : ¬ dig L (off + n) < c) : V 18446744073709551616 (L1.set (off + n) 0) off (n + 1) + gd * val 18446744073709551616 ys = V 18446744073709551616 L off (n + 1) ∧ V 18446744073709551616 (L1.set (off + n) 0) off (n + 1) < val 18446744073709551616 ys := by
 have e := hs.eq
 rw [V_top (by rw [hs.len]; exact hl)]
 rw [List.take_of_length_le (by omega)] at e
 rw [V_succ] at hup ⊢
 have a1 := V_nonneg (q := 18446744073709551616) (by decide) hs.wd off n
 have a2 := val_lt (q := 18446744073709551616) (by decide) hy
 rw [← hn] at a2
 rw [Int.add_mul] at hup
 obtain ⟨P, hP⟩ : ∃ P : Int, (18446744073709551616 : Int) ^ n = P := ⟨_, rfl⟩
 obtain ⟨un, hun⟩ : ∃ un, dig L (off + n) = un := ⟨_, rfl⟩
 obtain ⟨gM, hgM⟩ : ∃ gM, gd * val 18446744073709551616 ys = gM := ⟨_, rfl⟩
 rw [hP] at e a2 hup ⊢
 rw [hgM] at e hup ⊢
 rw [hun] at hup hc ⊢
 have hP0 : 0 < P := by rw [← hP]; exact Int.pow_pos (by decide)
 have k : un = c := by
  by_cases h : un = c
  ·
   exact h
  ·
   have h2 : c + 1 ≤ un := by omega
   have h3 : P * (c + 1) ≤ P * un := Int.mul_le_mul_of_nonneg_left h2 (by omega)
   rw [Int.mul_add, Int.mul_comm P c] at h3
   omega
 rw [k] at hup ⊢
 rw [Int.mul_comm P c] at hup ⊢
 constructor <;> omega
theorem take_back {L L1 L2 ys : List Int} {off n : Nat} {gd c c2 : Int} (hs : OffSt 18446744073709551616 L ys gd off n c L1) (hn : n = ys.length) (hy : Wd 18446744073709551616 ys) (hl : off + n < L.length) (hlo : (gd - 1) * val 18446744073709551616 ys ≤ V 18446744073709551616 L off (n + 1))
  (hc : dig L (off + n) < c) (hl2 : L2.length = L1.length) (hw2 : Wd 18446744073709551616 L2) (h2 : V 18446744073709551616 L2 off n + 1 * (c2 * 18446744073709551616 ^ n) = V 18446744073709551616 L1 off n + 1 * val 18446744073709551616 ys) :
  V 18446744073709551616 (L2.set (off + n) 0) off (n + 1) + (gd - 1) * val 18446744073709551616 ys = V 18446744073709551616 L off (n + 1) ∧ V 18446744073709551616 (L2.set (off + n) 0) off (n + 1) < val 18446744073709551616 ys := by
 have e := hs.eq
 rw [V_top (by rw [hl2, hs.len]; exact hl)]
 rw [List.take_of_length_le (by omega)] at e
 rw [V_succ] at hlo ⊢
 have a1 := V_nonneg (q := 18446744073709551616) (by decide) hw2 off n
 have a3 := V_lt (q := 18446744073709551616) (by decide) hw2 off n
 have a4 := V_lt (q := 18446744073709551616) (by decide) hs.wd off n
 have a2 := val_lt (q := 18446744073709551616) (by decide) hy
 rw [← hn] at a2
 rw [Int.sub_mul] at hlo ⊢
 obtain ⟨P, hP⟩ : ∃ P : Int, (18446744073709551616 : Int) ^ n = P := ⟨_, rfl⟩
 obtain ⟨un, hun⟩ : ∃ un, dig L (off + n) = un := ⟨_, rfl⟩
 obtain ⟨gM, hgM⟩ : ∃ gM, gd * val 18446744073709551616 ys = gM := ⟨_, rfl⟩
 rw [hP] at e a2 a3 a4 hlo h2 ⊢
 rw [hgM] at e hlo ⊢
 rw [hun] at hlo hc ⊢
 have hP0 : 0 < P := by rw [← hP]; exact Int.pow_pos (by decide)
 have h3 : P * un + P ≤ c * P := by
  have : P * (un + 1) ≤ P * c := Int.mul_le_mul_of_nonneg_left (by omega) (by omega)
  rw [Int.mul_add, Int.mul_one, Int.mul_comm P c] at this; exact this
 obtain ⟨t, ht⟩ : ∃ t, c2 + un - c = t := ⟨_, rfl⟩
 have e4 : c2 * P + P * un - c * P = P * t := by rw [← ht]; grind
 have k : t = 0 := by
  by_cases h : t = 0
  ·
   exact h
  ·
   rcases Int.lt_or_gt_of_ne h with h5 | h5
   ·
    have : P * t ≤ P * (-1) := Int.mul_le_mul_of_nonneg_left (by omega) (by omega)
    omega
   ·
    have : P * 1 ≤ P * t := Int.mul_le_mul_of_nonneg_left (by omega) (by omega)
    omega
 rw [k, Int.mul_zero] at e4
 constructor <;> omega
theorem takeOut_any (g off cap : Nat) (bo : Option Addr) (m cb : Nat) (L ys : List Int) (w : World) (hb : Blk w g .u64 60 L) (hW : Wd 18446744073709551616 L) (hn : off + (m + 2 + 1) ≤ L.length) (hnc : m + 2 + 1 ≤ cap) (hcap : cap ≤ 4611686018427387904)
  (hy : RowAt w .u64 bo (m + 2) cb ys) (hyW : Wd 18446744073709551616 ys) (hap : Apart bo (m + 2) g off (m + 2 + 1)) (htop : 9223372036854775808 ≤ dig ys (m + 1)) (hlt : V 18446744073709551616 L off (m + 2 + 1) < val 18446744073709551616 ys * 18446744073709551616) :
  Calls Tryz.prog 144 #[.slice (some ⟨g, off, none⟩) (m + 2 + 1 : Nat) cap, .slice bo (m + 2 : Nat) cb] w fun e w' => TakenOut w w' e g off (m + 2) L ys := by
 have hlen := hy.hlen
 obtain ⟨b', o', rfl, hb', hc'⟩ := hy.get (by omega)
 have p1 := hc' (m + 2 - 1) (by omega)
 have p0 := hc' (m + 2 - 2) (by omega)
 have q2 := hb.cell (j := off + (m + 2)) (by omega)
 have q1 := hb.cell (j := off + (m + 2 - 1)) (by omega)
 have q0 := hb.cell (j := off + (m + 2 - 2)) (by omega)
 rw [show m + 2 - 1 = m + 1 by omega] at p1 q1
 rw [show m + 2 - 2 = m by omega] at p0 q0
 obtain ⟨u2, h2⟩ : ∃ x, dig L (off + (m + 2)) = x := ⟨_, rfl⟩
 obtain ⟨u1, h1⟩ : ∃ x, dig L (off + (m + 1)) = x := ⟨_, rfl⟩
 obtain ⟨u0, h0⟩ : ∃ x, dig L (off + m) = x := ⟨_, rfl⟩
 obtain ⟨v1, k1⟩ : ∃ x, dig ys (m + 1) = x := ⟨_, rfl⟩
 obtain ⟨v0, k0⟩ : ∃ x, dig ys m = x := ⟨_, rfl⟩
 have bu2 := hW.dig (by decide) (off + (m + 2)); rw [h2] at bu2
 have bu1 := hW.dig (by decide) (off + (m + 1)); rw [h1] at bu1
 have bu0 := hW.dig (by decide) (off + m); rw [h0] at bu0
 have bv1 := hyW.dig (by decide) (m + 1); rw [k1] at bv1 htop
 have bv0 := hyW.dig (by decide) m; rw [k0] at bv0
 rw [h2] at q2; rw [h1] at q1; rw [h0] at q0; rw [k1] at p1; rw [k0] at p0
 obtain ⟨p, hp⟩ : ∃ p : Int, (18446744073709551616 : Int) ^ m = p := ⟨_, rfl⟩
 have hpp : 0 < p := by rw [← hp]; exact Int.pow_pos (by decide)
 have eN : V 18446744073709551616 L off (m + 2 + 1) = V 18446744073709551616 L off m + p * ((u2 * 18446744073709551616 + u1) * 18446744073709551616 + u0) := by
  rw [show m + 2 + 1 = m + 3 from rfl, V_split, V_three, hp, show off + m + 2 = off + (m + 2) by omega, show off + m + 1 = off + (m + 1) by omega, h2, h1, h0]
 have eM : val 18446744073709551616 ys = V 18446744073709551616 ys 0 m + p * (v1 * 18446744073709551616 + v0) := by
  rw [← V_all _ hlen, V_split, V_two, hp, show 0 + m + 1 = m + 1 by omega, show 0 + m = m by omega, k1, k0]
 have a0 := V_nonneg (q := 18446744073709551616) (by decide) hW off m
 have a1 := V_lt (q := 18446744073709551616) (by decide) hW off m
 have c0 := V_nonneg (q := 18446744073709551616) (by decide) hyW 0 m
 have c1 := V_lt (q := 18446744073709551616) (by decide) hyW 0 m
 rw [hp] at a1 c1
 have hle : u2 ≤ v1 := by
  by_cases h : u2 ≤ v1
  ·
   exact h
  ·
   have e1 : p * ((v1 + 1) * 18446744073709551616 * 18446744073709551616) ≤ p * ((u2 * 18446744073709551616 + u1) * 18446744073709551616 + u0) := Int.mul_le_mul_of_nonneg_left (by omega) (by omega)
   have e2 : p * (v1 * 18446744073709551616 + v0 + 1) ≤ p * ((v1 + 1) * 18446744073709551616) := Int.mul_le_mul_of_nonneg_left (by omega) (by omega)
   have e3 : p * ((v1 + 1) * 18446744073709551616 * 18446744073709551616) = p * ((v1 + 1) * 18446744073709551616) * 18446744073709551616 := by grind
   have e4 : p * (v1 * 18446744073709551616 + v0 + 1) = p * (v1 * 18446744073709551616 + v0) + p := by grind
   rw [eN, eM] at hlt
   omega
 obtain ⟨gd, hgc, hgd⟩ := guess_ex u2 u1 u0 v1 v0 bu2.1 hle bu1.1 bu1.2 bu0.1 bu0.2 bv1.1 bv1.2 bv0.1 bv0.2 (by omega)
 have hnear := guess_near hgd hpp a0 a1 c0 c1 eN eM bu0.1 (by omega) bv0.1 (by omega) hlt
 have HN : Hid (V 18446744073709551616 L off (m + 2 + 1) < (gd + 1) * val 18446744073709551616 ys ∧ (gd - 1) * val 18446744073709551616 ys ≤ V 18446744073709551616 L off (m + 2 + 1)) := hnear
 have hg0 := hgd.1
 have hg1 := hgd.2.1
 have HH : Hid (Blk w g .u64 60 L ∧ Wd 18446744073709551616 L ∧ off + (m + 2 + 1) ≤ L.length ∧ RowAt w .u64 (some ⟨b', o', none⟩) (m + 2) cb ys ∧ Wd 18446744073709551616 ys ∧ Apart (some ⟨b', o', none⟩) (m + 2) g off (m + 2 + 1) ∧ dig L (off + (m + 2)) = u2 ∧ m + 2 = ys.length) := ⟨hb, hW, hn, hy, hyW, hap, h2, hlen⟩
 have hap' : Hid (Apart (some ⟨b', o', none⟩) (m + 2) g off (m + 2)) := fun b o e t ht k hk e' => hap b o e t ht k (by omega) e'
 have HB : Hid (∀ n, Blk (w.drewN n) g .u64 60 L ∧ RowAt (w.drewN n) .u64 (some ⟨b', o', none⟩) (m + 2) cb ys) := fun n => ⟨hb, hy.later ⟨rfl, rfl, rfl, Nat.le_refl _, fun _ _ => rfl⟩⟩
 have hfz := hb.frozen (off + (m + 2))
 have hgs : g < w.heap.size := hb.lt
 obtain ⟨bu21, bu22⟩ := bu2
 clear hnear hgd eN eM a0 a1 c0 c1 hlt hle hp hpp hb hW hn hy hyW hap h2 hlen h1 h0 k1 k0 hc' bu1 bu0 bv1 bv0 htop
 by_cases hz : gd = 0
 ·
  subst hz
  go_enter Tryz.func144, Tryz.ntmps144
  go_wp2
  go_quiet ((go_at_call 150; exact (hgc _).mono (fun _ _ h => ⟨h.1, quiet_more h.2⟩)))
  go_wp2
  go_ret
  exact ⟨0, L, rfl, HH.out.1, rfl, HH.out.2.1, fun _ _ => rfl, by decide, by simp, by have := HN.out.1; simpa using this, (Touch.refl _ _).drewN _⟩
 ·
  have hz' : (gd == 0) = false := by simpa using hz
  go_enter Tryz.func144, Tryz.ntmps144
  go_wp2
  go_quiet ((go_at_call 150; exact (hgc _).mono (fun _ _ h => ⟨h.1, quiet_more h.2⟩)))
  go_wp2
  go_region_with ((go_at_call 151; refine (subTimes_any g off (m + 2) cap (some ⟨b', o', none⟩) (m + 2) cb L ys gd _ (HB.out _).1 HH.out.2.1 (by have := HH.out.2.2.1; omega) (by omega) hcap (HB.out _).2 HH.out.2.2.2.2.1 (Nat.le_refl _) hap'.out ⟨hg0, hg1⟩).mono ?_; rintro e w2 ⟨c, L1, rfl, hb2, hm2, ht2⟩; have HM : Hid (OffSt 18446744073709551616 L ys gd off (m + 2) c L1 ∧ Touch g w w2 ∧ Blk w2 g .u64 60 L1) := ⟨hm2, ((Touch.refl _ _).drewN _).trans ht2, hb2⟩; have hcz := hb2.cell (j := off + (m + 2)) (by have h1 := hm2.len; have h2 := HH.out.2.2.1; omega); rw [hm2.out _ (by omega), HH.out.2.2.2.2.2.2.1] at hcz; have hfz2 := hb2.frozen (off + (m + 2)); have hgs2 : g < w2.heap.size := hb2.lt; clear hm2 ht2 hb2))
  all_goals
   have HC : Hid (0 ≤ c ∧ c < 18446744073709551616) := ⟨HM.out.1.c0, HM.out.1.c1⟩
   have HR2 : Hid (RowAt w2 .u64 (some ⟨b', o', none⟩) (m + 2) cb ys) := row_touch HH.out.2.2.2.1 HH.out.1 HM.out.2.2 HM.out.2.1 hap'.out (fun j hj => HM.out.1.out j hj) HM.out.1.len
   by_cases hcc : u2 < c
   ·
    have hg2 : 0 ≤ gd - 1 := by omega
    go_wp2_with (go_at_call 133; refine (addInto_any g off (m + 2) cap (some ⟨b', o', none⟩) (m + 2) cb L1 ys w2 HM.out.2.2 HM.out.1.wd (by have h1 := HM.out.1.len; have h2 := HH.out.2.2.1; omega) (by omega) hcap HR2.out HH.out.2.2.2.2.1 (Nat.le_refl _) hap'.out).mono ?_; rintro e w3 ⟨c2, L2, rfl, hb3, hl3, hw3, ho3, hc30, hc31, hV3, ht3⟩; have HT : Hid (L2.length = L1.length ∧ Wd 18446744073709551616 L2 ∧ (∀ j, j < off ∨ off + (m + 2) ≤ j → dig L2 j = dig L1 j) ∧ (V 18446744073709551616 L2 off (m + 2) + 1 * (c2 * 18446744073709551616 ^ (m + 2)) = V 18446744073709551616 L1 off (m + 2) + 1 * val 18446744073709551616 ys) ∧ Touch g w2 w3 ∧ Blk w3 g .u64 60 L2) := ⟨hl3, hw3, ho3, hV3, ht3, hb3⟩; have hcz3 := hb3.cell (j := off + (m + 2)) (by have h1 := HM.out.1.len; have h2 := HH.out.2.2.1; omega); have hfz3 := hb3.frozen (off + (m + 2)); have hgs3 : g < w3.heap.size := hb3.lt; clear hl3 hw3 ho3 hV3 ht3 hb3 hc30 hc31)
    go_ret
    have hfin := take_back HM.out.1 HH.out.2.2.2.2.2.2.2 HH.out.2.2.2.2.1 (by have := HH.out.2.2.1; omega) HN.out.2 (by rw [HH.out.2.2.2.2.2.2.1]; exact hcc) HT.out.1 HT.out.2.1 HT.out.2.2.2.1
    have hlen3 : off + (m + 2) < L2.length := by have h1 := HM.out.1.len; have h2 := HH.out.2.2.1; have h3 := HT.out.1; omega
    exact ⟨gd - 1, L2.set (off + (m + 2)) 0, ret_int rfl, HT.out.2.2.2.2.2.set _ _, by simp [HT.out.1, HM.out.1.len], HT.out.2.1.set _ (by decide), fun j hj => by rw [dig_set _ hlen3, if_neg (by omega), HT.out.2.2.1 j (by omega), HM.out.1.out j (by omega)], by omega, hfin.1, hfin.2, (HM.out.2.1.trans HT.out.2.2.2.2.1).set _ _⟩
   ·
    go_wp2
    go_ret
    have hfin := take_right HM.out.1 HH.out.2.2.2.2.2.2.2 HH.out.2.2.2.2.1 (by have := HH.out.2.2.1; omega) HN.out.1 (by rw [HH.out.2.2.2.2.2.2.1]; omega)
    have hlen3 : off + (m + 2) < L1.length := by have h1 := HM.out.1.len; have h2 := HH.out.2.2.1; omega
    exact ⟨gd, L1.set (off + (m + 2)) 0, rfl, HM.out.2.2.set _ _, by simp [HM.out.1.len], HM.out.1.wd.set _ (by decide), fun j hj => by rw [dig_set _ hlen3, if_neg (by omega), HM.out.1.out j (by omega)], ⟨hg0, hg1⟩, hfin.1, hfin.2, HM.out.2.1.set _ _⟩
structure DivSt (q M X : Int) (n m k : Nat) (nu : Nat) (Lu Lq : List Int) : Prop where
 lu : Lu.length = nu
 lq : Lq.length = m
 wu : Wd q Lu
 wq : Wd q Lq
 eq : V q Lq k (m - k) * (q ^ k * M) + V q Lu 0 (k + n) = X
 lt : V q Lu 0 (k + n) < M * q ^ k
theorem DivSt.pre {q M X : Int} {n m k nu : Nat} {Lu Lq : List Int} (hq : 1 < q) (h : DivSt q M X n m (k + 1) nu Lu Lq) : V q Lu k (n + 1) < M * q := by
 have e := h.lt
 rw [show k + 1 + n = k + (n + 1) by omega, V_split, Int.pow_succ, Nat.zero_add] at e
 have h0 := V_nonneg (q := q) (by omega) h.wu 0 k
 have hp : 0 < q ^ k := Int.pow_pos (by omega)
 have e2 : q ^ k * V q Lu k (n + 1) < q ^ k * (M * q) := by
  have : M * (q ^ k * q) = q ^ k * (M * q) := by grind
  omega
 exact Int.lt_of_mul_lt_mul_left e2 (by omega)
theorem DivSt.step {q M X : Int} {n m k nu : Nat} {Lu Lq L' : List Int} {d : Int} (hq : 1 < q) (h : DivSt q M X n m (k + 1) nu Lu Lq) (hk : k < m) (hM : M < q ^ n) (hl : L'.length = Lu.length) (hw : Wd q L')
  (hout : ∀ j, j < k ∨ k + (n + 1) ≤ j → dig L' j = dig Lu j) (hd : 0 ≤ d ∧ d < q) (he : V q L' k (n + 1) + d * M = V q Lu k (n + 1)) (hlt : V q L' k (n + 1) < M) : DivSt q M X n m k nu L' (Lq.set k d) := by
 have hlk : k < Lq.length := by rw [h.lq]; exact hk
 have e0 : V q L' 0 k = V q Lu 0 k := V_congr fun j hj => by rw [hout _ (by omega)]
 have hp : 0 < q ^ k := Int.pow_pos (by omega)
 have hz : V q L' k (n + 1) = V q L' k n := by
  have a1 := V_nonneg (q := q) (by omega) hw k n
  have a2 := hw.dig (by omega) (k + n)
  rw [V_succ] at hlt ⊢
  by_cases h0 : dig L' (k + n) = 0
  ·
   rw [h0]; simp
  ·
   have : q ^ n * 1 ≤ q ^ n * dig L' (k + n) := Int.mul_le_mul_of_nonneg_left (by omega) (Int.le_of_lt (Int.pow_pos (by omega)))
   omega
 refine ⟨by rw [hl, h.lu], by simp [h.lq], hw, h.wq.set _ hd, ?_, ?_⟩
 ·
  rw [show m - k = (m - (k + 1)) + 1 by omega, V_cons, dig_set _ hlk, if_pos rfl]
  have e1 : V q (Lq.set k d) (k + 1) (m - (k + 1)) = V q Lq (k + 1) (m - (k + 1)) := V_congr fun j hj => by rw [dig_set _ hlk, if_neg (by omega)]
  have e2 := h.eq
  rw [show k + 1 + n = k + (n + 1) by omega, V_split, Nat.zero_add, Int.pow_succ, ← he] at e2
  rw [e1, V_split, Nat.zero_add, e0, ← hz]
  grind
 ·
  rw [V_split, Nat.zero_add, ← hz]
  have b1 := V_lt hq hw 0 k
  have : q ^ k * (V q L' k (n + 1) + 1) ≤ q ^ k * M := Int.mul_le_mul_of_nonneg_left (by omega) (by omega)
  rw [Int.mul_add, Int.mul_one] at this
  rw [Int.mul_comm M]; omega
theorem div_last {A B P Q R r u : Int} (hP : 0 < P) (h1 : Q * (P * B) + u = P * A) (h2 : R * P + r = u) (hr : 0 ≤ r) (hr' : r < P) (hu : u < P * B) (hR : 0 ≤ R) : Q * B + R = A ∧ R < B := by
 have e : r = P * (A - Q * B - R) := by
  have : P * (A - Q * B - R) = P * A - Q * (P * B) - R * P := by grind
  omega
 have hz : r = 0 := by
  obtain ⟨T, hT⟩ : ∃ T, A - Q * B - R = T := ⟨_, rfl⟩
  rw [hT] at e
  by_cases h : T = 0
  ·
   rw [e, h]; simp
  ·
   rcases Int.lt_or_gt_of_ne h with h5 | h5
   ·
    have : P * T ≤ P * (-1) := Int.mul_le_mul_of_nonneg_left (by omega) (by omega)
    omega
   ·
    have : P * 1 ≤ P * T := Int.mul_le_mul_of_nonneg_left (by omega) (by omega)
    omega
 have e2 : P * (Q * B + R) = P * A := by
  have : P * (Q * B + R) = Q * (P * B) + R * P := by grind
  omega
 refine ⟨Int.eq_of_mul_eq_mul_left (by omega) e2, ?_⟩
 have e3 : P * R < P * B := by rw [Int.mul_comm P R]; omega
 exact Int.lt_of_mul_lt_mul_left e3 (by omega)
theorem nat_div_of {A B : Nat} {Q R : Int} (h : Q * B + R = A) (hR : 0 ≤ R) (hlt : R < B) : Q = ((A / B : Nat) : Int) ∧ R = ((A % B : Nat) : Int) := by
 have := quot_unique (D := (B : Int)) (N := (A : Int)) (q := Q) (by omega) (by omega) (by rw [Int.add_mul]; omega)
 rw [Int.natCast_ediv, Int.natCast_emod]
 exact ⟨this.1, by rw [← this.2]; omega⟩
theorem norm_top {ys Lv : List Int} {n : Nat} {c P z : Int} (hn : n + 1 = ys.length) (hy : Wd 18446744073709551616 ys) (hz : dig ys n = z) (hv : Wd 18446744073709551616 Lv) (hP : 0 < P) (h1 : 9223372036854775808 ≤ z * P) (h2 : (z + 1) * P ≤ 18446744073709551616) (hc : 0 ≤ c)
  (he : V 18446744073709551616 Lv 0 (n + 1) + c * 18446744073709551616 ^ (n + 1) = P * val 18446744073709551616 ys) : c = 0 ∧ 9223372036854775808 ≤ dig Lv n := by
 have a0 := V_nonneg (q := 18446744073709551616) (by decide) hy 0 n
 have a1 := V_lt (q := 18446744073709551616) (by decide) hy 0 n
 have e0 : val 18446744073709551616 ys = V 18446744073709551616 ys 0 n + 18446744073709551616 ^ n * z := by rw [← V_all _ hn, V_succ, Nat.zero_add, hz]
 have b0 := V_nonneg (q := 18446744073709551616) (by decide) hv 0 n
 have b1 := V_lt (q := 18446744073709551616) (by decide) hv 0 n
 have b2 := hv.dig (by decide) n
 rw [V_succ, Nat.zero_add, Int.pow_succ, e0] at he
 obtain ⟨p, hp⟩ : ∃ p : Int, (18446744073709551616 : Int) ^ n = p := ⟨_, rfl⟩
 rw [hp] at a1 b1 he
 have hp0 : 0 < p := by rw [← hp]; exact Int.pow_pos (by decide)
 obtain ⟨a, ha⟩ : ∃ a, V 18446744073709551616 ys 0 n = a := ⟨_, rfl⟩
 obtain ⟨b, hb⟩ : ∃ b, V 18446744073709551616 Lv 0 n = b := ⟨_, rfl⟩
 obtain ⟨t, ht⟩ : ∃ t, dig Lv n = t := ⟨_, rfl⟩
 rw [ha] at a0 a1 he; rw [hb] at b0 b1 he; rw [ht] at b2 he ⊢
 have f1 : P * (a + p * z) < p * 18446744073709551616 := by
  have g1 : P * (a + p * z) < P * (p * (z + 1)) := Int.mul_lt_mul_of_pos_left (by rw [Int.mul_add]; omega) hP
  have g2 : p * ((z + 1) * P) ≤ p * 18446744073709551616 := Int.mul_le_mul_of_nonneg_left h2 (by omega)
  have g3 : P * (p * (z + 1)) = p * ((z + 1) * P) := by grind
  omega
 have f2 : p * 9223372036854775808 ≤ P * (a + p * z) := by
  have g1 : p * 9223372036854775808 ≤ p * (z * P) := Int.mul_le_mul_of_nonneg_left h1 (by omega)
  have g2 : P * (a + p * z) = P * a + p * (z * P) := by grind
  have g3 : 0 ≤ P * a := Int.mul_nonneg (by omega) a0
  omega
 have hpt : 0 ≤ p * t := Int.mul_nonneg (by omega) b2.1
 have hc0 : c = 0 := by
  by_cases h : c = 0
  ·
   exact h
  ·
   have : 1 * (p * 18446744073709551616) ≤ c * (p * 18446744073709551616) := Int.mul_le_mul_of_nonneg_right (by omega) (by omega)
   omega
 refine ⟨hc0, ?_⟩
 rw [hc0, Int.zero_mul] at he
 by_cases h : 9223372036854775808 ≤ t
 ·
  exact h
 ·
  have : p * (t + 1) ≤ p * 9223372036854775808 := Int.mul_le_mul_of_nonneg_left (by omega) (by omega)
  rw [Int.mul_add] at this; omega
theorem div_room {xs ys : List Int} {P : Int} (hx : Wd 18446744073709551616 xs) (hy : Wd 18446744073709551616 ys) (hc : Can ys) (hne : ys ≠ []) {m : Nat} (hm : xs.length + 1 = m + ys.length) (hP : 0 < P) :
  P * val 18446744073709551616 xs < P * val 18446744073709551616 ys * 18446744073709551616 ^ m := by
 have a := val_lt (q := 18446744073709551616) (by decide) hx
 have b := val_ge (q := 18446744073709551616) (by decide) hy hc hne
 have hl : 0 < ys.length := List.length_pos_iff.2 hne
 have e : (18446744073709551616 : Int) ^ xs.length = 18446744073709551616 ^ (ys.length - 1) * 18446744073709551616 ^ m := by
  rw [← Int.pow_add]; congr 1; omega
 have h1 : (18446744073709551616 : Int) ^ (ys.length - 1) * 18446744073709551616 ^ m ≤ val 18446744073709551616 ys * 18446744073709551616 ^ m := Int.mul_le_mul_of_nonneg_right b (Int.le_of_lt (Int.pow_pos (by decide)))
 have h2 : val 18446744073709551616 xs < val 18446744073709551616 ys * 18446744073709551616 ^ m := by rw [e] at a; omega
 rw [Int.mul_assoc]
 exact Int.mul_lt_mul_of_pos_left h2 hP
def Parted (ao bo : Option Addr) : Prop := ∀ p q : Addr, ao = some p → bo = some q → p.block ≠ q.block
theorem Parted.none_ {bo : Option Addr} : Parted none bo := fun p q h => by cases h
theorem Parted.trims {ao bo ao' bo' : Option Addr} {c c' d d' k l : Nat} (h : Parted ao bo) (ha : ao' = ao ∧ c' = c ∨ ao' = none ∧ k = 0) (hb : bo' = bo ∧ d' = d ∨ bo' = none ∧ l = 0) : Parted ao' bo' := by
 intro p q hp hq
 rcases ha with ⟨rfl, _⟩ | ⟨rfl, _⟩
 ·
  rcases hb with ⟨rfl, _⟩ | ⟨rfl, _⟩
  ·
   exact h p q hp hq
  ·
   cases hq
 ·
  cases hp
theorem Parted.made {B B' : Nat} {w w' : World} {t t' : TypeId} {ao bo : Option Addr} {l c l' c' : Nat} {zs ys : List Int} (h : Own B w .u64 t ao l c zs) (k : Own B' w' .u64 t' bo l' c' ys) (hs : w.heap.size ≤ B') : Parted ao bo := by
 intro p q hp hq
 rcases h with ⟨h1, _⟩ | ⟨g, off, cur, h1, h2, h3, _⟩
 ·
  rw [h1] at hp; cases hp
 ·
  rcases k with ⟨k1, _⟩ | ⟨g', off', cur', k1, k2, _⟩
  ·
   rw [k1] at hq; cases hq
  ·
   rw [h1] at hp; rw [k1] at hq
   cases hp; cases hq
   have := heap_lt h3
   show g ≠ g'
   omega
def TwoNat (w w' : World) (e : Ending) (x y : Nat) : Prop :=
 ∃ ao la ca bo lb cb, e = .returned (.tuple #[.slice ao la ca, .slice bo lb cb]) ∧ Own w.heap.size w' .u64 60 ao la ca (mag x) ∧ Own w.heap.size w' .u64 60 bo lb cb (mag y) ∧ Below w.heap.size w w' ∧ Parted ao bo
theorem lead_ex (z : Int) (h0 : 0 < z) (h1 : z < 18446744073709551616) : ∃ s : Nat, 64 - (Lib.bitLen z.toNat : Int) = (s : Int) ∧ s < 64 ∧ 9223372036854775808 ≤ z * 2 ^ s ∧ (z + 1) * 2 ^ s ≤ 18446744073709551616 := by
 obtain ⟨z, rfl⟩ := Int.eq_ofNat_of_zero_le (Int.le_of_lt h0)
 obtain ⟨b1, b2, b3⟩ := bitLen_bounds (y := z) (by omega) (by omega)
 have b4 : Lib.bitLen z ≤ 64 := Lib.bitLen_le z 64 (by omega) (by omega)
 obtain ⟨l, hl⟩ : ∃ l, Lib.bitLen z = l := ⟨_, rfl⟩
 rw [hl] at b1 b2 b3 b4
 have e1 : 2 ^ (l - 1) * 2 ^ (64 - l) = 9223372036854775808 := by rw [← Nat.pow_add, show l - 1 + (64 - l) = 63 by omega]
 have e2 : 2 ^ l * 2 ^ (64 - l) = 18446744073709551616 := by rw [← Nat.pow_add, show l + (64 - l) = 64 by omega]
 have f1 := Nat.mul_le_mul_right (2 ^ (64 - l)) b2
 have f2 := Nat.mul_le_mul_right (2 ^ (64 - l)) (show z + 1 ≤ 2 ^ l from b3)
 rw [e1] at f1; rw [e2] at f2
 refine ⟨64 - l, by rw [Int.toNat_natCast, hl]; omega, by omega, ?_, ?_⟩
 ·
  have : ((z * 2 ^ (64 - l) : Nat) : Int) = (z : Int) * 2 ^ (64 - l) := by rw [Int.natCast_mul, Int.natCast_pow]; rfl
  rw [← this]; omega
 ·
  have : (((z + 1) * 2 ^ (64 - l) : Nat) : Int) = ((z : Int) + 1) * 2 ^ (64 - l) := by rw [Int.natCast_mul, Int.natCast_pow]; rfl
  rw [← this]; omega
theorem below_less {B B' : Nat} {w w' : World} (h : Below B w w') (hB : B' ≤ B) : Below B' w w' := ⟨h.os, h.tape, h.output, h.size, fun k hk => h.block k (by omega)⟩
theorem divlong_a {w w2 w3 : World} {g j n : Nat} {v : Int} {L1 : List Int} (hb : Blk w2 g .u64 60 L1) (hB : Below g w w2)
  (h : w3.ownsRow 0 60 1 (.slice (some ⟨(w2.setCell ⟨g, j, none⟩ (.int .u64 v)).heap.size, 0, none⟩) n n) n (madeCells (Value.int .u64 0).cells (n * 1)).toList) (hg : (w2.setCell ⟨g, j, none⟩ (.int .u64 v)).grownBy w3 none) :
  Hid (Blk w3 g .u64 60 (L1.set j v) ∧ Blk w3 w2.heap.size .u64 60 (List.replicate n 0) ∧ Below g w w3) := by
 have h1 := made_blk h
 have h2 := grown_below hg
 have h3 : Touch g w2 (w2.setCell ⟨g, j, none⟩ (.int .u64 v)) := (Touch.refl _ _).set _ _
 have h4 := hb.lt
 refine ⟨(hb.set j v).all h2, by rw [h3.size] at h1; exact h1, (hB.trans (h3.below (Nat.le_refl _))).trans (below_less h2 (by rw [h3.size]; omega))⟩
theorem divlong_b {w w' : World} {g g' : Nat} {L : List Int} (hb : Blk w g .u64 60 L) (ht : Touch g' w w') (hne : g ≠ g') : Blk w' g .u64 60 L := by
 unfold Blk at *; rw [ht.block g hne]; exact hb
theorem takeOut_len (g off cap l : Nat) (bo : Option Addr) (m cb : Nat) (hl : l = m + 2 + 1) (L ys : List Int) (w : World) (hb : Blk w g .u64 60 L) (hW : Wd 18446744073709551616 L) (hn : off + (m + 2 + 1) ≤ L.length) (hnc : m + 2 + 1 ≤ cap) (hcap : cap ≤ 4611686018427387904)
  (hy : RowAt w .u64 bo (m + 2) cb ys) (hyW : Wd 18446744073709551616 ys) (hap : Apart bo (m + 2) g off (m + 2 + 1)) (htop : 9223372036854775808 ≤ dig ys (m + 1)) (hlt : V 18446744073709551616 L off (m + 2 + 1) < val 18446744073709551616 ys * 18446744073709551616) :
  Calls Tryz.prog 144 #[.slice (some ⟨g, off, none⟩) l cap, .slice bo (m + 2 : Nat) cb] w fun e w' => TakenOut w w' e g off (m + 2) L ys := by
 subst hl
 exact takeOut_any g off cap bo m cb L ys w hb hW hn hnc hcap hy hyW hap htop hlt
theorem trim_own {B : Nat} {w : World} {ao ao' : Option Addr} {n k cap cap' : Nat} {L : List Int} {N : Nat} (hk : k ≤ n) (h : RowAt w .u64 ao' k cap' (L.take k) ∧ Can (L.take k) ∧ (∀ q, val q (L.take k) = val q L) ∧ (ao' = ao ∧ cap' = cap ∨ ao' = none ∧ k = 0)) (ho : Own B w .u64 60 ao n cap L) (hW : Wd 18446744073709551616 L) (hv : val 18446744073709551616 L = N) : Own B w .u64 60 ao' k cap' (mag N) := by
 obtain ⟨hr, hc, hval, hor⟩ := h
 have hm : mag N = L.take k := mag_of (hW.take k) hc (by rw [hval, hv])
 rw [hm]
 rcases hor with ⟨rfl, rfl⟩ | ⟨rfl, rfl⟩
 ·
  exact ho.take hk
 ·
  exact Or.inl ⟨rfl, rfl, hr.hnil rfl, by simp⟩
theorem divlong_end {a b n m nu : Nat} {P r : Int} {Lu Lq L2 L3 L0 : List Int} (h : DivSt 18446744073709551616 (val 18446744073709551616 L2) (P * (a : Int)) (n + 2) m 0 nu Lu Lq) (hM : val 18446744073709551616 L2 = P * (b : Int)) (hP : 0 < P) (hl0 : L0.length = n + 2)
  (hq : QuoSt 18446744073709551616 L0 (Lu.take (n + 2)) P 0 (n + 2) 0 r L3) : val 18446744073709551616 Lq = ((a / b : Nat) : Int) ∧ val 18446744073709551616 L3 = ((a % b : Nat) : Int) := by
 have e1 := h.eq
 have e2 := h.lt
 have e3 := hq.eq
 rw [Nat.sub_zero, Nat.zero_add, Int.pow_zero, Int.one_mul, V_all _ h.lq.symm, hM] at e1
 rw [Nat.zero_add, Int.pow_zero, Int.mul_one, hM] at e2
 have e4 : V 18446744073709551616 (Lu.take (n + 2)) 0 (n + 2) = V 18446744073709551616 Lu 0 (n + 2) := V_congr fun j hj => by rw [dig_take (by omega)]
 rw [Nat.sub_zero, Nat.zero_add, V_all _ (by rw [hq.len, hl0]), e4] at e3
 have h0 := val_nonneg (q := 18446744073709551616) (by decide) hq.wd
 have e5 := div_last hP e1 e3 hq.r0 hq.r1 e2 h0
 exact nat_div_of e5.1 h0 e5.2
theorem divideLong_any (ao bo : Option Addr) (m ca n cb : Nat) (a b : Nat) (w : World) (hx : RowAt w .u64 ao (n + 1 + m) ca (mag a)) (hy : RowAt w .u64 bo (n + 2) cb (mag b)) (hl : n + 1 + m ≤ 4294967296) (hm : 1 ≤ m) :
  Calls Tryz.prog 132 #[.slice ao (n + 1 + m : Nat) ca, .slice bo (n + 2 : Nat) cb] w fun e w' => TwoNat w w' e (a / b) (a % b) := by
 obtain ⟨i0, hi, hz0, hz1, hz2⟩ := info_parts info64
 obtain ⟨b', o', rfl, hb', hc'⟩ := hy.get (by omega)
 have p1 := hc' (n + 2 - 1) (by omega)
 rw [show n + 2 - 1 = n + 1 by omega] at p1
 have hyl := hy.hlen
 have hne : mag b ≠ [] := fun e => by rw [e] at hyl; simp at hyl
 obtain ⟨z, hz⟩ : ∃ z, dig (mag b) (n + 1) = z := ⟨_, rfl⟩
 have hzb := (mag_wd b).dig (by decide) (n + 1)
 have hz1' : z ≠ 0 := by
  have h1 := mag_can b
  rw [← hz]
  obtain ⟨r, t, ht⟩ := snoc_of hne
  rw [ht] at h1 hyl ⊢
  have : n + 1 = r.length := by simp at hyl; omega
  rw [this]; simp [dig]; exact can_snoc.1 h1
 rw [hz] at p1 hzb
 obtain ⟨s, hs, hs64, hs1, hs2⟩ := lead_ex z (by omega) hzb.2
 have hcon := leading_any z w hzb.1 (by omega)
 rw [hs] at hcon
 have HX : Hid (RowAt w .u64 ao (n + 1 + m) ca (mag a) ∧ RowAt w .u64 (some ⟨b', o', none⟩) (n + 2) cb (mag b)) := ⟨hx, hy⟩
 have HZ : Hid (dig (mag b) (n + 1) = z ∧ 9223372036854775808 ≤ z * 2 ^ s ∧ (z + 1) * 2 ^ s ≤ 18446744073709551616 ∧ mag b ≠ []) := ⟨hz, hs1, hs2, hne⟩
 have b1 : Hid (i0.bytes * (n + 1 + m + 1) ≤ 281474976710656) := by show _ ≤ _; rw [hz2]; omega
 have b2 : Hid (n + 1 + m + 1 ≤ maxLen) := by show _ ≤ _; unfold maxLen; omega
 have b3 : Hid (Wd 18446744073709551616 (List.replicate (n + 1 + m + 1) 0)) := wd_zeros (by decide) _
 have b4 : Hid (i0.bytes * (n + 2) ≤ 281474976710656) := by show _ ≤ _; rw [hz2]; omega
 have b5 : Hid (n + 2 ≤ maxLen) := by show _ ≤ _; unfold maxLen; omega
 have b6 : Hid (Wd 18446744073709551616 (List.replicate (n + 2) 0)) := wd_zeros (by decide) _
 have b7 : Hid (i0.bytes * m ≤ 281474976710656) := by show _ ≤ _; rw [hz2]; omega
 have b8 : Hid (m ≤ maxLen) := by show _ ≤ _; unfold maxLen; omega
 have b9 : Hid (Wd 18446744073709551616 (List.replicate m 0)) := wd_zeros (by decide) _
 clear hx hy hc' hyl hne hz hs hs1 hs2 hz1' hzb
 go_enter Tryz.func132, Tryz.ntmps132
 go_wp2_with (first
  | (go_at_call 135; refine hcon.mono ?_; rintro e w0 ⟨rfl, hw0⟩; replace hw0 := hw0.symm; subst hw0)
  | (at_make; refine wpList_make_full _ rfl (.tmp 22) (.tmp 22) 25 rfl 0 60 i0 (.int .u64 0) 1 Tryz.underlying25 hi hz0 hz1 .i64 .i64 _ _ (n + 1 + m + 1) rfl rfl (by omega) (by omega) b1.out b2.out (Nat.zero_le _) ?_; intro w1 hown1 hgrow1)
  | (go_at_call 143; refine (upBits_any w.heap.size 0 (n + 1 + m + 1) (n + 1 + m + 1) ao (n + 1 + m) ca (List.replicate (n + 1 + m + 1) 0) (mag a) s w1 hs64 (made_blk hown1) b3.out (by simp) (Nat.le_refl _) (by omega) (HX.out.1.later (grown_below hgrow1)) (mag_wd _) (by omega) (apart_new HX.out.1 (Nat.le_refl _))).mono ?_; rintro e w2 ⟨c1, L1, rfl, hb1, hu1, ht1⟩; have HU : Hid (UpSt 18446744073709551616 (List.replicate (n + 1 + m + 1) 0) (mag a) (2 ^ s) 0 (n + 1 + m) c1 L1 ∧ Blk w2 w.heap.size .u64 60 L1 ∧ Below w.heap.size w w2) := ⟨hu1, hb1, (grown_below hgrow1).trans (ht1.below (Nat.le_refl _))⟩; have hcz := hb1.cell (j := n + 1 + m) (by have := hu1.len; simp at this; omega); have hfz := hb1.frozen (n + 1 + m); have hgs : w.heap.size < w2.heap.size := hb1.lt; clear hb1 hu1 ht1 hown1 hgrow1)
  | (at_make; refine wpList_make_full _ rfl (.tmp 33) (.tmp 33) 25 rfl 0 60 i0 (.int .u64 0) 1 Tryz.underlying25 hi hz0 hz1 .i64 .i64 _ _ (n + 2) rfl rfl (by omega) (by omega) b4.out b5.out (Nat.zero_le _) ?_; intro w3 hown3 hgrow3; have HA := divlong_a HU.out.2.1 HU.out.2.2 hown3 hgrow3; clear hown3 hgrow3; try simp only [World.size_setCell] at HA)
  | (go_at_call 143; go_loud (refine (upBits_any w2.heap.size 0 (n + 2) (n + 2) (some ⟨b', o', none⟩) (n + 2) cb (List.replicate (n + 2) 0) (mag b) s w3 hs64 HA.out.2.1 b6.out (by simp) (Nat.le_refl _) (by omega) (HX.out.2.later HA.out.2.2) (mag_wd _) (Nat.le_refl _) (apart_new HX.out.2 (by omega))).mono ?_; rintro e w4 ⟨c2, L2, rfl, hb2, hu2, ht2⟩; have HB : Hid (UpSt 18446744073709551616 (List.replicate (n + 2) 0) (mag b) (2 ^ s) 0 (n + 2) c2 L2 ∧ Blk w4 w2.heap.size .u64 60 L2 ∧ Blk w4 w.heap.size .u64 60 (L1.set (n + 1 + m) c1) ∧ Below w.heap.size w w4 ∧ w2.heap.size < w4.heap.size) := ⟨hu2, hb2, divlong_b HA.out.1 ht2 (by omega), HA.out.2.2.trans (ht2.below (by omega)), hb2.lt⟩; clear hb2 hu2 ht2))
  | (at_make; refine wpList_make_full _ rfl (.tmp 44) (.tmp 44) 26 rfl 0 60 i0 (.int .u64 0) 1 Tryz.underlying26 hi hz0 hz1 .i64 .i64 _ _ m rfl rfl (by omega) (by omega) b7.out b8.out (Nat.zero_le _) ?_; intro w5 hown5 hgrow5; have HC : Hid (Blk w5 w.heap.size .u64 60 (L1.set (n + 1 + m) c1) ∧ Blk w5 w2.heap.size .u64 60 L2 ∧ Blk w5 w4.heap.size .u64 60 (List.replicate m 0) ∧ Below w.heap.size w w5) := ⟨HB.out.2.2.1.all (grown_below hgrow5), HB.out.2.1.all (grown_below hgrow5), made_blk hown5, HB.out.2.2.2.1.trans (below_less (grown_below hgrow5) (by have := HB.out.2.2.2.2; omega))⟩; have hg24 := HB.out.2.2.2.2; clear hown5 hgrow5))
 have HU1 := HU.out.1
 have HB1 := HB.out.1
 have hlb : n + 1 + 1 = (mag b).length := HX.out.2.hlen
 have hla : n + 1 + m = (mag a).length := HX.out.1.hlen
 have hP : (0 : Int) < 2 ^ s := Int.pow_pos (by decide)
 have hPq : (2 : Int) ^ s < 18446744073709551616 := by
  obtain ⟨P, R, _, _, _, hR0, hPR, hPi, _⟩ := pow_pair hs64
  rw [hPi]
  have h1 : z + 1 ≤ 1 ∨ 1 ≤ z := by omega
  have h2 : 9223372036854775808 ≤ z * P := hPi ▸ HZ.out.2.1
  have h3 : (z + 1) * P ≤ 18446744073709551616 := hPi ▸ HZ.out.2.2.1
  rw [Int.add_mul] at h3
  omega
 have hlL1 : L1.length = n + 1 + m + 1 := by have := HU1.len; simpa using this
 have hlL2 : L2.length = n + 2 := by have := HB1.len; simpa using this
 have hnt := norm_top hlb (mag_wd b) HZ.out.1 HB1.wd hP HZ.out.2.1 HZ.out.2.2.1 HB1.c0 (by have := HB1.eq; rw [List.take_of_length_le (by omega)] at this; exact this)
 have hM : val 18446744073709551616 L2 = 2 ^ s * (b : Int) := by
  have := HB1.eq
  rw [hnt.1, List.take_of_length_le (by omega), mag_val] at this
  rw [← V_all _ (hlL2.symm)]; omega
 have hX : V 18446744073709551616 (L1.set (n + 1 + m) c1) 0 (m + (n + 2)) = 2 ^ s * (a : Int) := by
  have e := HU1.eq
  rw [List.take_of_length_le (by omega), mag_val] at e
  rw [show m + (n + 2) = (n + 1 + m) + 1 by omega, V_succ, Nat.zero_add, dig_set _ (by omega), if_pos rfl, ← e, Int.mul_comm c1]
  congr 1
  exact V_congr fun j hj => by rw [dig_set _ (by omega), if_neg (by omega)]
 have hroom := div_room (P := 2 ^ s) (mag_wd a) (mag_wd b) (mag_can b) HZ.out.2.2.2 (m := m) (by omega) hP
 rw [mag_val, mag_val, ← hM] at hroom
 have HD0 : Hid (DivSt 18446744073709551616 (val 18446744073709551616 L2) (2 ^ s * (a : Int)) (n + 2) m m (n + 1 + m + 1) (L1.set (n + 1 + m) c1) (List.replicate m 0)) := ⟨by simp [hlL1], by simp, HU1.wd.set _ ⟨HU1.c0, by have := HU1.c1; omega⟩, b9.out, by rw [Nat.sub_self, V_zero]; rw [hX]; simp, by rw [hX]; exact hroom⟩
 have hMlt : val 18446744073709551616 L2 < 18446744073709551616 ^ (n + 2) := by have := val_lt (q := 18446744073709551616) (by decide) HB1.wd; rw [hlL2] at this; exact this
 have HT : Hid (9223372036854775808 ≤ dig L2 (n + 1) ∧ val 18446744073709551616 L2 = 2 ^ s * (b : Int) ∧ val 18446744073709551616 L2 < 18446744073709551616 ^ (n + 2) ∧ Wd 18446744073709551616 L2 ∧ L2.length = n + 2 ∧ (0 : Int) < 2 ^ s) := ⟨hnt.2, hM, hMlt, HB1.wd, hlL2, hP⟩
 obtain ⟨g1, hg1⟩ : ∃ g1, w.heap.size = g1 := ⟨_, rfl⟩
 obtain ⟨g2, hg2⟩ : ∃ g2, w2.heap.size = g2 := ⟨_, rfl⟩
 obtain ⟨g3, hg3⟩ : ∃ g3, w4.heap.size = g3 := ⟨_, rfl⟩
 rw [hg1, hg2, hg3] at HC
 rw [hg1, hg2] at hgs
 rw [hg2, hg3] at hg24
 have HG : Hid (w.heap.size = g1) := hg1
 simp only [hg1, hg2, hg3]
 clear hnt hM hX hroom hMlt hP hPq hlL1 hlL2 HU1 HB1 hlb hla HU HB HA hg1 hg2 hg3 hcz hfz hcon hb' p1
 go_loopw [10] (fun i wr => ∃ (k : Nat) (Lu Lq : List Int), k ≤ m ∧ i = .int .i64 ((k : Int) - 1) ∧ DivSt 18446744073709551616 (val 18446744073709551616 L2) (2 ^ s * (a : Int)) (n + 2) m k (n + 1 + m + 1) Lu Lq ∧ Blk wr g1 .u64 60 Lu ∧ Blk wr g2 .u64 60 L2 ∧ Blk wr g3 .u64 60 Lq ∧ Below g1 w wr) (fun i _ => (intOf i + 1).toNat)
 case atStart => exact ⟨m, _, _, Nat.le_refl _, by go_num, HD0.out, HC.out.1, HC.out.2.1, HC.out.2.2.1, HC.out.2.2.2⟩
 case round =>
  obtain ⟨k, Lu, Lq, hk, rfl, hst, hbu, hbv, hbq, hbw⟩ := hrel
  have HS : Hid (DivSt 18446744073709551616 (val 18446744073709551616 L2) (2 ^ s * (a : Int)) (n + 2) m k (n + 1 + m + 1) Lu Lq ∧ Blk wr g1 .u64 60 Lu ∧ Blk wr g2 .u64 60 L2 ∧ Blk wr g3 .u64 60 Lq ∧ Below g1 w wr) := ⟨hst, hbu, hbv, hbq, hbw⟩
  clear hst hbu hbv hbq hbw
  rcases k with _ | k
  ·
   have hwr : g3 < wr.heap.size := HS.out.2.2.2.1.lt
   go_wp2_with (first
    | (at_make; refine wpList_make_full _ rfl (.tmp 67) (.tmp 67) 26 rfl 0 60 i0 (.int .u64 0) 1 Tryz.underlying26 hi hz0 hz1 .i64 .i64 _ _ (n + 2) rfl rfl (by omega) (by omega) b4.out b5.out (Nat.zero_le _) ?_; intro w7 hown7 hgrow7; have HR : Hid (Blk w7 g1 .u64 60 Lu ∧ Blk w7 g3 .u64 60 Lq ∧ Blk w7 wr.heap.size .u64 60 (List.replicate (n + 2) 0) ∧ Below g1 w w7) := ⟨HS.out.2.1.all (grown_below hgrow7), HS.out.2.2.2.1.all (grown_below hgrow7), made_blk hown7, HS.out.2.2.2.2.trans (below_less (grown_below hgrow7) (by omega))⟩; clear hown7 hgrow7)
    | (go_at_call 145; refine (downBits_any wr.heap.size 0 (n + 2) (n + 2) (some ⟨g1, 0, none⟩) (n + 1 + m + 1) (List.replicate (n + 2) 0) (Lu.take (n + 2)) s w7 hs64 HR.out.2.2.1 b6.out (by simp) (Nat.le_refl _) (by omega) ((Own.whole (B := 0) HR.out.1 (Nat.zero_le _) HS.out.1.lu.symm).row.take (by omega)) (HS.out.1.wu.take _) (fun b o e t ht k' hk' e' => (by cases e; omega))).mono ?_; rintro e w8 ⟨r, L3, rfl, hb8, hq8, ht8⟩; have HE : Hid (Blk w8 g3 .u64 60 Lq ∧ Blk w8 wr.heap.size .u64 60 L3 ∧ L3.length = n + 2 ∧ Wd 18446744073709551616 L3 ∧ Below g1 w w8 ∧ (val 18446744073709551616 Lq = ((a / b : Nat) : Int) ∧ val 18446744073709551616 L3 = ((a % b : Nat) : Int))) := ⟨divlong_b HR.out.2.1 ht8 (by omega), hb8, (by rw [hq8.len]; simp), hq8.wd, HR.out.2.2.2.trans (ht8.below (by omega)), divlong_end HS.out.1 HT.out.2.1 HT.out.2.2.2.2.2 (by simp) hq8⟩; clear hb8 hq8 ht8)
    | (go_at_call 123; have _t := hrest9; refine (trim_any (some ⟨wr.heap.size, 0, none⟩) (n + 2) (n + 2) L3 w8 (Own.whole (B := 0) HE.out.2.1 (Nat.zero_le _) HE.out.2.2.1.symm).row (by omega)).mono ?_; rintro e w10 ⟨hT10, hw10⟩; replace hw10 := hw10.symm; subst hw10; obtain ⟨ao10, n10, cap10, hn10, rfl, hrest10⟩ := hT10)
    | (go_at_call 123; refine (trim_any (some ⟨g3, 0, none⟩) m m Lq w8 (Own.whole (B := 0) HE.out.1 (Nat.zero_le _) HS.out.1.lq.symm).row (by omega)).mono ?_; rintro e w9 ⟨hT9, hw9⟩; replace hw9 := hw9.symm; subst hw9; obtain ⟨ao9, n9, cap9, hn9, rfl, hrest9⟩ := hT9))
   go_ret2
   exact ⟨ao9, n9, cap9, ao10, n10, cap10, rfl, trim_own hn9 hrest9 (Own.whole HE.out.1 (by rw [HG.out]; omega) HS.out.1.lq.symm) HS.out.1.wq HE.out.2.2.2.2.2.1, trim_own hn10 hrest10 (Own.whole HE.out.2.1 (by rw [HG.out]; omega) HE.out.2.2.1.symm) HE.out.2.2.2.1 HE.out.2.2.2.2.2.2, by rw [HG.out]; exact HE.out.2.2.2.2.1, Parted.trims (ao := some ⟨g3, 0, none⟩) (bo := some ⟨wr.heap.size, 0, none⟩) (fun p q hp hq => by cases hp; cases hq; show g3 ≠ wr.heap.size; omega) hrest9.2.2.2 hrest10.2.2.2⟩
  ·
   have hkk : ((k + 1 : Nat) : Int) - 1 = (k : Int) := by omega
   rw [hkk]
   have hap : Hid (Apart (some ⟨g2, 0, none⟩) (n + 2) g1 k (n + 2 + 1)) := fun b o e t ht k' hk' e' => by cases e; omega
   have hro : Hid (RowAt wr .u64 (some ⟨g2, 0, none⟩) (n + 2) (n + 2) L2) := (Own.whole (B := 0) HS.out.2.2.1 (Nat.zero_le _) HT.out.2.2.2.2.1.symm).row
   clear hkk
   go_wp2_with (go_at_call 144; refine (takeOut_len g1 k (n + 1 + m + 1 - k) (k + (n + 2) + 1 - k) (some ⟨g2, 0, none⟩) n (n + 2) (by omega) Lu L2 wr HS.out.2.1 HS.out.1.wu (by have := HS.out.1.lu; omega) (by omega) (by omega) hro.out HT.out.2.2.2.1 hap.out HT.out.1 (HS.out.1.pre (by decide))).mono ?_; rintro e w6 ⟨d, L', rfl, hb6, hl6, hw6, ho6, hd6, he6, hlt6, ht6⟩; have HQ : Hid (DivSt 18446744073709551616 (val 18446744073709551616 L2) (2 ^ s * (a : Int)) (n + 2) m k (n + 1 + m + 1) L' (Lq.set k d) ∧ Blk w6 g1 .u64 60 L' ∧ Blk w6 g2 .u64 60 L2 ∧ Blk w6 g3 .u64 60 Lq ∧ Below g1 w w6) := ⟨HS.out.1.step (by decide) (by omega) HT.out.2.2.1 hl6 hw6 ho6 hd6 he6 hlt6, hb6, divlong_b HS.out.2.2.1 ht6 (by omega), divlong_b HS.out.2.2.2.1 ht6 (by omega), HS.out.2.2.2.2.trans (ht6.below (Nat.le_refl _))⟩; have hcz := HQ.out.2.2.2.1.cell (j := k) (by have := HS.out.1.lq; omega); have hfz := HQ.out.2.2.2.1.frozen k; have hgs6 : g3 < w6.heap.size := HQ.out.2.2.2.1.lt; clear hb6 hl6 hw6 ho6 hd6 he6 hlt6 ht6)
   go_roundw
   case rel => exact ⟨k, L', Lq.set k d, Nat.le_of_succ_le hk, rfl, HQ.out.1, HQ.out.2.1.other (by show g1 ≠ g3; omega) _, HQ.out.2.2.1.other (by show g2 ≠ g3; omega) _, HQ.out.2.2.2.1.set _ _, HQ.out.2.2.2.2.trans (((Touch.refl g3 w6).set _ _).below (by omega))⟩
   case measure => simp [intOf]
end Go.Proofs.YthjkdnlbdhhmbaaGreatDoor
