/-
  A pack of walks and facts: LE0.
-/
import Derived.Test.YthjkdnlbdhhmbaaGreatDoorPV14
import Derived.Shelf.Spec.TrailingZeros
import Derived.Deep.DeepCutAuto
set_option maxRecDepth 100000
set_option maxHeartbeats 40000000
set_option linter.unusedVariables false
set_option linter.unusedSimpArgs false
namespace Go.Proofs.YthjkdnlbdhhmbaaGreatDoor
theorem gcd_comb {a b p q r s e : Int} (he : e = 1 ∨ e = -1) (h : p * s - q * r = e) : Int.gcd (p * a - q * b) (s * b - r * a) = Int.gcd a b := by
 have ee : e * e = 1 := by rcases he with rfl | rfl <;> rfl
 have h1 : s * (p * a - q * b) + q * (s * b - r * a) = e * a := by rw [← h]; grind
 have h2 : r * (p * a - q * b) + p * (s * b - r * a) = e * b := by rw [← h]; grind
 apply Nat.dvd_antisymm
 ·
  apply Int.dvd_gcd
  ·
   have d := Int.dvd_add (Int.dvd_trans (Int.gcd_dvd_left (p * a - q * b) (s * b - r * a)) (Int.dvd_mul_left s _)) (Int.dvd_trans (Int.gcd_dvd_right (p * a - q * b) (s * b - r * a)) (Int.dvd_mul_left q _))
   rw [h1] at d
   have := Int.dvd_trans d (Int.dvd_mul_left e _)
   rwa [← Int.mul_assoc, ee, Int.one_mul] at this
  ·
   have d := Int.dvd_add (Int.dvd_trans (Int.gcd_dvd_left (p * a - q * b) (s * b - r * a)) (Int.dvd_mul_left r _)) (Int.dvd_trans (Int.gcd_dvd_right (p * a - q * b) (s * b - r * a)) (Int.dvd_mul_left p _))
   rw [h2] at d
   have := Int.dvd_trans d (Int.dvd_mul_left e _)
   rwa [← Int.mul_assoc, ee, Int.one_mul] at this
 ·
  apply Int.dvd_gcd
  ·
   exact Int.dvd_sub (Int.dvd_trans (Int.gcd_dvd_left a b) (Int.dvd_mul_left p _)) (Int.dvd_trans (Int.gcd_dvd_right a b) (Int.dvd_mul_left q _))
  ·
   exact Int.dvd_sub (Int.dvd_trans (Int.gcd_dvd_right a b) (Int.dvd_mul_left s _)) (Int.dvd_trans (Int.gcd_dvd_left a b) (Int.dvd_mul_left r _))
structure Fore (A B x0 y0 x y u0 u1 u2 v0 v1 v2 s : Int) : Prop where
 sg : s = 1 ∨ s = -1
 n0 : 0 ≤ u0 ∧ 0 ≤ u1 ∧ 0 ≤ u2
 n1 : 0 ≤ v0 ∧ 0 ≤ v1 ∧ 1 ≤ v2
 hx : x = s * (u1 * x0 - v1 * y0)
 hy : y = s * (v2 * y0 - u2 * x0)
 h0 : 0 ≤ y
 h1 : y ≤ x
 ix : v2 * x + v1 * y = x0
 iy : u2 * x + u1 * y = y0
 dt : u1 * v2 - u2 * v1 = s
 le : u2 ≤ v2
 ls : u1 + u2 ≤ v1 + v2
 ph : (u0 = 0 ∧ v0 = 0 ∧ u1 = 1 ∧ v1 = 0 ∧ u2 = 0 ∧ v2 = 1 ∧ s = 1) ∨ (u0 = 1 ∧ v0 = 0 ∧ u1 = 0 ∧ v1 = 1 ∧ u2 = 1 ∧ s = -1) ∨
  ((1 ≤ v0 ∧ 1 ≤ v1) ∧ u0 * v1 - u1 * v0 = -s ∧ 0 ≤ s * (u1 * A - v1 * B) ∧ s * (u1 * A - v1 * B) ≤ s * (v0 * B - u0 * A) ∧ s * (v0 * B - u0 * A) ≤ B ∧ s * (v0 * B - u0 * A) + s * (u1 * A - v1 * B) ≤ A)
theorem Fore.start {A B x0 y0 : Int} (h0 : 0 ≤ y0) (h1 : y0 ≤ x0) : Fore A B x0 y0 x0 y0 0 1 0 0 0 1 1 :=
 ⟨Or.inl rfl, by decide, by decide, by simp, by simp, h0, h1, by simp, by simp, by simp, by decide, by decide, Or.inl ⟨rfl, rfl, rfl, rfl, rfl, rfl, rfl⟩⟩
theorem Fore.cond {A B x0 y0 x y u0 u1 u2 v0 v1 v2 s K al be : Int} (h : Fore A B x0 y0 x y u0 u1 u2 v0 v1 v2 s) (hA : A = x0 * K + al) (hB : B = y0 * K + be) (ha0 : 0 ≤ al) (ha1 : al < K) (hb0 : 0 ≤ be) (hb1 : be < K) (c1 : v2 ≤ y) (c2 : v1 + v2 ≤ x - y) :
  0 ≤ s * (v2 * B - u2 * A) ∧ s * (v2 * B - u2 * A) ≤ s * (u1 * A - v1 * B) := by
 have hK : 0 < K := by omega
 obtain ⟨n1, n2, n3⟩ := h.n0
 obtain ⟨m1, m2, m3⟩ := h.n1
 have e1 : s * (v2 * B - u2 * A) = y * K + s * (v2 * be - u2 * al) := by rw [h.hy, hA, hB]; grind
 have e2 : s * (u1 * A - v1 * B) = x * K + s * (u1 * al - v1 * be) := by rw [h.hx, hA, hB]; grind
 have p1 : 0 ≤ v2 * be := Int.mul_nonneg (by omega) hb0
 have p2 : v2 * be ≤ v2 * K := Int.mul_le_mul_of_nonneg_left (by omega) (by omega)
 have p3 : 0 ≤ u2 * al := Int.mul_nonneg n3 ha0
 have p4 : u2 * al ≤ u2 * K := Int.mul_le_mul_of_nonneg_left (by omega) n3
 have p5 : u2 * K ≤ v2 * K := Int.mul_le_mul_of_nonneg_right h.le (by omega)
 have p6 : v2 * K ≤ y * K := Int.mul_le_mul_of_nonneg_right c1 (by omega)
 have p7 : (v1 + v2) * K ≤ (x - y) * K := Int.mul_le_mul_of_nonneg_right c2 (by omega)
 have p8 : (u1 + u2) * al ≤ (u1 + u2) * K := Int.mul_le_mul_of_nonneg_left (by omega) (by omega)
 have p9 : (u1 + u2) * K ≤ (v1 + v2) * K := Int.mul_le_mul_of_nonneg_right h.ls (by omega)
 have pa : (v1 + v2) * be ≤ (v1 + v2) * K := Int.mul_le_mul_of_nonneg_left (by omega) (by omega)
 have pb : 0 ≤ (u1 + u2) * al := Int.mul_nonneg (by omega) ha0
 have pc : 0 ≤ (v1 + v2) * be := Int.mul_nonneg (by omega) hb0
 rw [e1, e2]
 simp only [Int.add_mul, Int.sub_mul] at p7 p8 p9 pa pb pc
 rcases h.sg with hs | hs <;> rw [hs] <;> simp only [Int.one_mul, Int.neg_mul] <;> omega
theorem Fore.step {A B x0 y0 x y u0 u1 u2 v0 v1 v2 s K al be q r : Int} (h : Fore A B x0 y0 x y u0 u1 u2 v0 v1 v2 s) (hA : A = x0 * K + al) (hB : B = y0 * K + be) (ha0 : 0 ≤ al) (ha1 : al < K) (hb0 : 0 ≤ be) (hb1 : be < K) (c1 : v2 ≤ y) (c2 : v1 + v2 ≤ x - y)
  (hq : x = q * y + r) (hr0 : 0 ≤ r) (hr1 : r < y) (hq1 : 1 ≤ q) (hBp : 0 ≤ B) : Fore A B x0 y0 y r u1 u2 (u1 + q * u2) v1 v2 (v1 + q * v2) (-s) := by
 obtain ⟨k1, k2⟩ := h.cond hA hB ha0 ha1 hb0 hb1 c1 c2
 obtain ⟨n1, n2, n3⟩ := h.n0
 obtain ⟨m1, m2, m3⟩ := h.n1
 have g1 : u2 ≤ q * u2 := by have := Int.mul_le_mul_of_nonneg_right hq1 n3; omega
 have g2 : v2 ≤ q * v2 := by have := Int.mul_le_mul_of_nonneg_right hq1 (show 0 ≤ v2 by omega); omega
 have g3 : q * u2 - u2 ≤ q * v2 - v2 := by
  have := Int.mul_le_mul_of_nonneg_left h.le (show 0 ≤ q - 1 by omega)
  rw [Int.sub_mul, Int.sub_mul] at this; omega
 have hls := h.ls
 have hle := h.le
 have hix := h.ix
 have hiy := h.iy
 have hdt := h.dt
 refine ⟨by rcases h.sg with e | e <;> rw [e] <;> simp, ⟨n2, n3, by omega⟩, ⟨m2, by omega, by omega⟩, ?_, ?_, hr0, by omega, ?_, ?_, ?_, by omega, by omega, ?_⟩
 ·
  rw [h.hy]; grind
 ·
  have : r = x - q * y := by omega
  rw [this, h.hx, h.hy]; grind
 ·
  rw [← hix, hq]; grind
 ·
  rw [← hiy, hq]; grind
 ·
  rw [← hdt]; grind
 ·
  rcases h.ph with ⟨e1, e2, e3, e4, e5, e6, e7⟩ | ⟨e1, e2, e3, e4, e5, e6⟩ | ⟨e1, e2, e3, e4, e5, e6⟩
  ·
   refine Or.inr (Or.inl ⟨e3, e4, e5, e6, ?_, by rw [e7]⟩)
   rw [e3, e5]; simp
  ·
   refine Or.inr (Or.inr ?_)
   subst e1 e2 e3 e4 e5 e6
   have hv : B ≤ v2 * B := by have := Int.mul_le_mul_of_nonneg_right m3 hBp; omega
   refine ⟨⟨by decide, m3⟩, by simp, ?_, ?_, ?_, ?_⟩ <;> simp at k1 k2 ⊢ <;> omega
  ·
   refine Or.inr (Or.inr ?_)
   have f1 : -s * (u2 * A - v2 * B) = s * (v2 * B - u2 * A) := by grind
   have f2 : -s * (v1 * B - u1 * A) = s * (u1 * A - v1 * B) := by grind
   exact ⟨⟨e1.2, m3⟩, by rw [hdt]; simp, by rw [f1]; exact k1, by rw [f1, f2]; exact k2, by rw [f2]; omega, by rw [f1, f2]; omega⟩
theorem Fore.ends {A B x0 y0 x y u0 u1 u2 v0 v1 v2 s : Int} (h : Fore A B x0 y0 x y u0 u1 u2 v0 v1 v2 s) (hv : v0 ≠ 0) :
  u0 * v1 - u1 * v0 = -s ∧ 0 ≤ s * (u1 * A - v1 * B) ∧ s * (u1 * A - v1 * B) ≤ s * (v0 * B - u0 * A) ∧ s * (v0 * B - u0 * A) ≤ B ∧ s * (v0 * B - u0 * A) + s * (u1 * A - v1 * B) ≤ A := by
 rcases h.ph with ⟨e1, e2, _⟩ | ⟨e1, e2, _⟩ | ⟨e1, e2, e3, e4, e5, e6⟩
 ·
  exact absurd e2 hv
 ·
  exact absurd e2 hv
 ·
  exact ⟨e2, e3, e4, e5, e6⟩
theorem Fore.small {A B x0 y0 x y u0 u1 u2 v0 v1 v2 s : Int} (h : Fore A B x0 y0 x y u0 u1 u2 v0 v1 v2 s) (hx : 1 ≤ x) : v2 ≤ x0 ∧ u2 ≤ y0 := by
 obtain ⟨n1, n2, n3⟩ := h.n0
 obtain ⟨m1, m2, m3⟩ := h.n1
 have a1 : v2 * 1 ≤ v2 * x := Int.mul_le_mul_of_nonneg_left hx (by omega)
 have a2 : u2 * 1 ≤ u2 * x := Int.mul_le_mul_of_nonneg_left hx n3
 have a3 := Int.mul_nonneg m2 h.h0
 have a4 := Int.mul_nonneg n2 h.h0
 have a5 := h.ix
 have a6 := h.iy
 omega
open Go.RowKit
theorem timesPlus_ex (x u c : Int) (hx : 0 ≤ x ∧ x < 18446744073709551616) (hu : 0 ≤ u ∧ u < 18446744073709551616) (hc : 0 ≤ c ∧ c < 18446744073709551616) :
  ∃ lo hi : Int, (∀ W : World, Calls Tryz.prog 149 #[.int .u64 x, .int .u64 u, .int .u64 c] W fun e w' => e = .returned (.tuple #[.int .u64 lo, .int .u64 hi]) ∧ w' = W) ∧ (0 ≤ lo ∧ lo < 18446744073709551616) ∧ (0 ≤ hi ∧ hi < 18446744073709551616) ∧ lo + hi * 18446744073709551616 = x * u + c := by
 obtain ⟨hi, lo, hmul, hhi, hlo, hml⟩ := mul64_ex x u hx hu
 obtain ⟨d1, c1, hrun1, hd1, hc1, he1⟩ := add64_ex lo c 0 hlo hc (by decide) (by decide)
 have htot : x * u ≤ 18446744073709551615 * 18446744073709551615 := Int.mul_le_mul (by omega) (by omega) hu.1 (by decide)
 have s1 : hi + c1 ≤ 18446744073709551615 := by omega
 have s0 : 0 ≤ hi + c1 := by omega
 refine ⟨d1, hi + c1, fun W => ?_, hd1, by omega, by omega⟩
 obtain ⟨hx1, hx2⟩ := hx
 obtain ⟨hu1, hu2⟩ := hu
 clear htot hml he1 hd1 hlo hc
 obtain ⟨hhi1, hhi2⟩ := hhi
 obtain ⟨hc11, hc12⟩ := hc1
 go_enter Tryz.func149, Tryz.ntmps149
 go_wp2_with (first | simp only [hrun1] | (go_at_call 136; refine (hmul _).mono ?_; rintro e w' ⟨rfl, rfl⟩))
 go_ret2
 exact ⟨by go_num, rfl⟩
structure CombSt (q : Int) (L x y : List Int) (u v : Int) (off k : Nat) (cx cy bo : Int) (Lk : List Int) : Prop where
 len : Lk.length = L.length
 out : ∀ j, j < off ∨ off + k ≤ j → dig Lk j = dig L j
 wd : Wd q Lk
 x0 : 0 ≤ cx ∧ cx < q
 y0 : 0 ≤ cy ∧ cy < q
 b0 : 0 ≤ bo ∧ bo ≤ 1
 eq : V q Lk off k + (cx - cy - bo) * q ^ k = u * val q (x.take k) - v * val q (y.take k)
theorem CombSt.start {q : Int} (hq : 0 < q) {L x y : List Int} {u v : Int} (off : Nat) (h : Wd q L) : CombSt q L x y u v off 0 0 0 0 L :=
 ⟨rfl, fun _ _ => rfl, h, ⟨Int.le_refl _, hq⟩, ⟨Int.le_refl _, hq⟩, by decide, by simp [V_zero, val]⟩
theorem CombSt.step {q : Int} {L x y : List Int} {u v : Int} {off k : Nat} {cx cy bo : Int} {Lk : List Int} (h : CombSt q L x y u v off k cx cy bo Lk) (hk : off + k < L.length) {lx ly d cx' cy' b' : Int} (hd : 0 ≤ d ∧ d < q) (hx : 0 ≤ cx' ∧ cx' < q) (hy : 0 ≤ cy' ∧ cy' < q) (hb : 0 ≤ b' ∧ b' ≤ 1)
  (e1 : lx + cx' * q = dig x k * u + cx) (e2 : ly + cy' * q = dig y k * v + cy) (e3 : d + (-1) * (b' * q) = lx + (-1) * (ly + bo)) : CombSt q L x y u v off (k + 1) cx' cy' b' (Lk.set (off + k) d) := by
 have hl : off + k < Lk.length := by rw [h.len]; exact hk
 refine ⟨by simp [h.len], fun j hj => ?_, h.wd.set _ hd, hx, hy, hb, ?_⟩
 ·
  rw [dig_set _ hl, if_neg (by omega)]; exact h.out j (by omega)
 ·
  have f1 : V q (Lk.set (off + k) d) off k = V q Lk off k := V_congr fun j hj => by rw [dig_set _ hl, if_neg (by omega)]
  rw [V_succ, f1, dig_set _ hl, if_pos rfl, val_take_dig, val_take_dig, Int.pow_succ]
  have h1 := h.eq
  have f2 : q ^ k * (lx + cx' * q) = q ^ k * (dig x k * u + cx) := by rw [e1]
  have f3 : q ^ k * (ly + cy' * q) = q ^ k * (dig y k * v + cy) := by rw [e2]
  have f4 : q ^ k * (d + (-1) * (b' * q)) = q ^ k * (lx + (-1) * (ly + bo)) := by rw [e3]
  grind
theorem comb_end {q T V0 cx cy bo : Int} (h : V0 + (cx - cy - bo) * q = T) (h0 : 0 ≤ T) (h1 : T < q) (h2 : 0 ≤ V0) (h3 : V0 < q) : V0 = T := by
 obtain ⟨d, hd⟩ : ∃ d, cx - cy - bo = d := ⟨_, rfl⟩
 rw [hd] at h
 rcases Int.lt_trichotomy d 0 with e | e | e
 ·
  have : d * q ≤ (-1) * q := Int.mul_le_mul_of_nonneg_right (by omega) (by omega)
  omega
 ·
  rw [e] at h; omega
 ·
  have : 1 * q ≤ d * q := Int.mul_le_mul_of_nonneg_right (by omega) (by omega)
  omega
theorem combine_reg (g off n cap : Nat) (ao : Option Addr) (lx ca : Nat) (bo : Option Addr) (ly cb : Nat) (u v : Int) (xs ys : List Int) (w : World) (hr : Room w g off n) (hlc : n ≤ cap) (hcap : cap ≤ 4611686018427387904) (hx : RowAt w .u64 ao lx ca xs) (hxW : Wd 18446744073709551616 xs) (hy : RowAt w .u64 bo ly cb ys) (hyW : Wd 18446744073709551616 ys)
  (hlx : lx ≤ n) (hly : ly ≤ n) (hax : Apart ao lx g off n) (hay : Apart bo ly g off n) (hu : 0 ≤ u ∧ u < 18446744073709551616) (hv : 0 ≤ v ∧ v < 18446744073709551616) (T : Int) (hT : T = u * val 18446744073709551616 xs - v * val 18446744073709551616 ys) (hT0 : 0 ≤ T) (hT1 : T < 18446744073709551616 ^ n) :
  Calls Tryz.prog 140 #[.slice (some ⟨g, off, none⟩) n cap, .slice ao lx ca, .slice bo ly cb, .int .u64 u, .int .u64 v] w fun e w' => e = .returned (.tuple #[]) ∧ Chg (Fr g off n) w w' ∧ RowV w' (some ⟨g, off, none⟩) n cap T := by
 obtain ⟨L, hb, hW, hn⟩ := hr
 have HH : Hid (Blk w g .u64 60 L ∧ Wd 18446744073709551616 L ∧ off + n ≤ L.length ∧ (Wd 18446744073709551616 xs ∧ Wd 18446744073709551616 ys) ∧ Apart ao lx g off n ∧ Apart bo ly g off n) := ⟨hb, hW, hn, ⟨hxW, hyW⟩, hax, hay⟩
 have HR : Hid (RowAt w .u64 ao lx ca xs ∧ RowAt w .u64 bo ly cb ys) := ⟨hx, hy⟩
 have HT : Hid (T = u * val 18446744073709551616 xs - v * val 18446744073709551616 ys ∧ 0 ≤ T ∧ T < 18446744073709551616 ^ n) := ⟨hT, hT0, hT1⟩
 have HUV : Hid ((0 ≤ u ∧ u < 18446744073709551616) ∧ (0 ≤ v ∧ v < 18446744073709551616)) := ⟨hu, hv⟩
 clear hb hW hn hxW hyW hax hay hx hy hT hT0 hT1 hu hv
 go_enter Tryz.func140, Tryz.ntmps140
 go_wp2
 go_loopw [10, 11, 12, 18] (fun a1 a2 a3 i wr => ∃ (k : Nat) (cx cy bw : Int) (Lk : List Int), k ≤ n ∧ i = .int .i64 k ∧ a1 = .int .u64 cx ∧ a2 = .int .u64 cy ∧ a3 = .int .u64 bw ∧ CombSt 18446744073709551616 L xs ys u v off k cx cy bw Lk ∧ Blk wr g .u64 60 Lk ∧ Touch g w wr) (fun _ _ _ i _ => n - (intOf i).toNat)
 case atStart => exact ⟨0, 0, 0, 0, L, Nat.zero_le _, rfl, rfl, rfl, rfl, CombSt.start (by decide) off HH.out.2.1, HH.out.1, Touch.refl _ _⟩
 case round =>
  obtain ⟨k, cx, cy, bw, Lk, hk, rfl, rfl, rfl, rfl, hst, hbl, hto⟩ := hrel
  have HS : Hid (CombSt 18446744073709551616 L xs ys u v off k cx cy bw Lk ∧ Blk wr g .u64 60 Lk ∧ Touch g w wr) := ⟨hst, hbl, hto⟩
  by_cases hlt : k < n
  ·
   have hcz := hbl.cell (j := off + k) (by have := hst.len; have := HH.out.2.2.1; omega)
   have hfz := hbl.frozen (off + k)
   have hgs : g < wr.heap.size := hbl.lt
   obtain ⟨xd, hxd⟩ : ∃ xd, dig xs k = xd := ⟨_, rfl⟩
   obtain ⟨yd, hyd⟩ : ∃ yd, dig ys k = yd := ⟨_, rfl⟩
   have HXD : Hid (dig xs k = xd ∧ dig ys k = yd) := ⟨hxd, hyd⟩
   have bx := HH.out.2.2.2.1.1.dig (by decide) k
   have by' := HH.out.2.2.2.1.2.dig (by decide) k
   rw [hxd] at bx
   rw [hyd] at by'
   obtain ⟨lo1, hi1, hr1, hlo1, hhi1, he1⟩ := timesPlus_ex xd u cx bx HUV.out.1 hst.x0
   obtain ⟨lo2, hi2, hr2, hlo2, hhi2, he2⟩ := timesPlus_ex yd v cy by' HUV.out.2 hst.y0
   obtain ⟨d, b', hrun, hd, hbb, he⟩ := sub64_ex lo1 lo2 bw hlo1 hlo2 hst.b0.1 hst.b0.2
   have HD : Hid (CombSt 18446744073709551616 L xs ys u v off (k + 1) hi1 hi2 b' (Lk.set (off + k) d)) := hst.step (by have := HH.out.2.2.1; omega) hd hhi1 hhi2 hbb (by rw [hxd]; exact he1) (by rw [hyd]; exact he2) (by rw [← he])
   have hxr : Hid (RowAt wr .u64 ao lx ca xs ∧ RowAt wr .u64 bo ly cb ys) := ⟨row_touch HR.out.1 HH.out.1 hbl hto HH.out.2.2.2.2.1 (fun j hj => hst.out j (by omega)) hst.len, row_touch HR.out.2 HH.out.1 hbl hto HH.out.2.2.2.2.2 (fun j hj => hst.out j (by omega)) hst.len⟩
   clear hd hbb he he1 he2 hlo1 hlo2 hhi1 hhi2 bx by' hst hbl hto hxd hyd
   by_cases hkx : k < lx
   ·
    by_cases hky : k < ly
    ·
     obtain ⟨p, o, rfl, hp, hcp⟩ := hxr.out.1.get (by omega)
     have hcx := hcp k hkx
     rw [HXD.out.1] at hcx
     clear hcp
     obtain ⟨p', o', rfl, hp', hcp'⟩ := hxr.out.2.get (by omega)
     have hcy := hcp' k hky
     rw [HXD.out.2] at hcy
     clear hcp'
     have H1 : Hid True := trivial
     go_wp2_with (first
      | simp only [hrun]
      | (go_at_call 149; have _t := H2; refine (hr2 _).mono ?_; rintro e w' ⟨rfl, rfl⟩)
      | (go_at_call 149; have _t := H1; refine (hr1 _).mono ?_; rintro e w' ⟨rfl, rfl⟩; clear H1; have H2 : Hid True := trivial))
     go_roundw
     case rel => exact ⟨k + 1, hi1, hi2, b', Lk.set (off + k) d, by omega, by go_num, rfl, rfl, rfl, HD.out, HS.out.2.1.set _ _, HS.out.2.2.set _ _⟩
     case measure => simp [intOf]; omega
    ·
     obtain ⟨p, o, rfl, hp, hcp⟩ := hxr.out.1.get (by omega)
     have hcx := hcp k hkx
     rw [HXD.out.1] at hcx
     clear hcp
     have hy0 : yd = 0 := by rw [← HXD.out.2]; have := HR.out.2.hlen; simp [dig, List.getElem?_eq_none (show ys.length ≤ k by omega)]
     subst hy0
     have H1 : Hid True := trivial
     go_wp2_with (first
      | simp only [hrun]
      | (go_at_call 149; have _t := H2; refine (hr2 _).mono ?_; rintro e w' ⟨rfl, rfl⟩)
      | (go_at_call 149; have _t := H1; refine (hr1 _).mono ?_; rintro e w' ⟨rfl, rfl⟩; clear H1; have H2 : Hid True := trivial))
     go_roundw
     case rel => exact ⟨k + 1, hi1, hi2, b', Lk.set (off + k) d, by omega, by go_num, rfl, rfl, rfl, HD.out, HS.out.2.1.set _ _, HS.out.2.2.set _ _⟩
     case measure => simp [intOf]; omega
   ·
    by_cases hky : k < ly
    ·
     have hx0 : xd = 0 := by rw [← HXD.out.1]; have := HR.out.1.hlen; simp [dig, List.getElem?_eq_none (show xs.length ≤ k by omega)]
     subst hx0
     obtain ⟨p', o', rfl, hp', hcp'⟩ := hxr.out.2.get (by omega)
     have hcy := hcp' k hky
     rw [HXD.out.2] at hcy
     clear hcp'
     have H1 : Hid True := trivial
     go_wp2_with (first
      | simp only [hrun]
      | (go_at_call 149; have _t := H2; refine (hr2 _).mono ?_; rintro e w' ⟨rfl, rfl⟩)
      | (go_at_call 149; have _t := H1; refine (hr1 _).mono ?_; rintro e w' ⟨rfl, rfl⟩; clear H1; have H2 : Hid True := trivial))
     go_roundw
     case rel => exact ⟨k + 1, hi1, hi2, b', Lk.set (off + k) d, by omega, by go_num, rfl, rfl, rfl, HD.out, HS.out.2.1.set _ _, HS.out.2.2.set _ _⟩
     case measure => simp [intOf]; omega
    ·
     have hx0 : xd = 0 := by rw [← HXD.out.1]; have := HR.out.1.hlen; simp [dig, List.getElem?_eq_none (show xs.length ≤ k by omega)]
     subst hx0
     have hy0 : yd = 0 := by rw [← HXD.out.2]; have := HR.out.2.hlen; simp [dig, List.getElem?_eq_none (show ys.length ≤ k by omega)]
     subst hy0
     have H1 : Hid True := trivial
     go_wp2_with (first
      | simp only [hrun]
      | (go_at_call 149; have _t := H2; refine (hr2 _).mono ?_; rintro e w' ⟨rfl, rfl⟩)
      | (go_at_call 149; have _t := H1; refine (hr1 _).mono ?_; rintro e w' ⟨rfl, rfl⟩; clear H1; have H2 : Hid True := trivial))
     go_roundw
     case rel => exact ⟨k + 1, hi1, hi2, b', Lk.set (off + k) d, by omega, by go_num, rfl, rfl, rfl, HD.out, HS.out.2.1.set _ _, HS.out.2.2.set _ _⟩
     case measure => simp [intOf]; omega
  ·
   obtain rfl : k = n := by omega
   clear hst hbl hto
   go_wp2
   go_end0
   have h1 := HS.out.1.eq
   rw [List.take_of_length_le (by rw [← HR.out.1.hlen]; exact hlx), List.take_of_length_le (by rw [← HR.out.2.hlen]; exact hly), ← HT.out.1] at h1
   have hR := RowV.ofBlk (n := k) (off := off) (cap := cap) HS.out.2.1 HS.out.1.wd (by rw [HS.out.1.len]; exact HH.out.2.2.1) hlc
   rw [comb_end h1 HT.out.2.1 HT.out.2.2 hR.nonneg hR.lt] at hR
   exact ⟨rfl, Chg.ofTouch HS.out.2.2 HH.out.1 HS.out.2.1 HS.out.1.len HS.out.1.wd HS.out.1.out, hR⟩
theorem rem64_ex (hi lo y : Int) (h0 : 0 ≤ hi) (h1 : hi < 18446744073709551616) (hy : 0 < y) (h2 : y < 18446744073709551616) (h3 : 0 ≤ lo) (h4 : lo < 18446744073709551616) (W : World) :
  Calls Tryz.prog 141 #[.int .u64 hi, .int .u64 lo, .int .u64 y] W fun e w' => e = .returned (.int .u64 ((hi * 18446744073709551616 + lo) % y)) ∧ ∃ n, w' = W.drewN n := by
 obtain ⟨m, hm⟩ : ∃ m, hi % y = m := ⟨_, rfl⟩
 have hm0 : 0 ≤ m := by rw [← hm]; exact Int.emod_nonneg _ (by omega)
 have hm1 : m < y := by rw [← hm]; exact Int.emod_lt_of_pos _ hy
 obtain ⟨d, r, hdiv, hd, hr, he⟩ := div64_ex m lo y hm0 hm1 h2 h3 h4
 have htm : hi.tmod y = m := by rw [Int.tmod_eq_emod_of_nonneg h0, hm]
 have HE : Hid ((hi * 18446744073709551616 + lo) % y = r) := by
  show _ = _
  have e1 : hi = y * (hi / y) + m := by rw [← hm]; have := Int.mul_ediv_add_emod hi y; omega
  have e2 : hi * 18446744073709551616 + lo = r + y * ((hi / y) * 18446744073709551616 + d) := by
   have e3 : hi * 18446744073709551616 = (y * (hi / y) + m) * 18446744073709551616 := by rw [← e1]
   grind
  rw [e2, Int.add_mul_emod_self_left]
  exact Int.emod_eq_of_lt hr.1 hr.2
 have hy0 : (y == 0) = false := by simp; omega
 clear hm he hd hr
 go_enter Tryz.func141, Tryz.ntmps141
 go_wp2_with (go_at_call 142; refine (hdiv _).mono ?_; rintro e w' ⟨rfl, nq, rfl⟩)
 go_ret
 exact ⟨by rw [HE.out]; rfl, _, rfl⟩
def up (q : Int) (zs : List Int) (k : Nat) : Int := val q (zs.drop k)
theorem up_step (q : Int) {zs : List Int} {k : Nat} (h : k < zs.length) : up q zs k = dig zs k + q * up q zs (k + 1) := by
 unfold up
 rw [List.drop_eq_getElem_cons h, val_cons]
 simp [dig, h]
theorem up_top (q : Int) {zs : List Int} {k : Nat} (h : zs.length ≤ k) : up q zs k = 0 := by
 unfold up; rw [List.drop_of_length_le h]; rfl
theorem modLimb_any (ao : Option Addr) (la ca : Nat) (y : Int) (xs : List Int) (w : World) (hx : RowAt w .u64 ao la ca xs) (hxW : Wd 18446744073709551616 xs) (hl : la ≤ 4294967296) (hy : 0 < y) (h2 : y < 18446744073709551616) :
  Calls Tryz.prog 130 #[.slice ao la ca, .int .u64 y] w fun e w' => e = .returned (.int .u64 (val 18446744073709551616 xs % y)) ∧ ∃ n, w' = w.drewN n := by
 have HL : Hid (la = xs.length ∧ Wd 18446744073709551616 xs) := ⟨hx.hlen, hxW⟩
 clear hxW
 go_enter Tryz.func130, Tryz.ntmps130
 go_wp2
 go_loopw [5, 6] (fun r i wr => ∃ (k : Nat) (rv : Int), k ≤ la ∧ i = .int .i64 ((k : Int) - 1) ∧ r = .int .u64 rv ∧ Hid (rv = up 18446744073709551616 xs k % y) ∧ (0 ≤ rv ∧ rv < y) ∧ ∃ n, wr = w.drewN n) (fun _ i _ => (intOf i + 1).toNat)
 case atStart => exact ⟨la, 0, Nat.le_refl _, by go_num, rfl, by (show _ = _; rw [up_top _ (by rw [← HL.out.1]; exact Nat.le_refl _)]; simp), ⟨Int.le_refl _, hy⟩, 0, rfl⟩
 case round =>
  obtain ⟨k, rv, hk, rfl, rfl, HR, ⟨hr0, hr1⟩, n, rfl⟩ := hrel
  rcases k with _ | k
  ·
   have hend : ((0 : Nat) : Int) - 1 < 0 := by omega
   go_wp2
   go_ret
   refine ⟨?_, n, rfl⟩
   rw [HR.out]; rfl
  ·
   have hkk : ((k + 1 : Nat) : Int) - 1 = (k : Int) := by omega
   rw [hkk]
   clear hkk
   obtain ⟨b, o, rfl, hb, hc⟩ := hx.get (by omega)
   have hck := hc k (by omega)
   obtain ⟨x, hxd⟩ : ∃ x, dig xs k = x := ⟨_, rfl⟩
   rw [hxd] at hck
   have bx := HL.out.2.dig (by decide) k
   rw [hxd] at bx
   have hcon := fun W => rem64_ex rv x y hr0 (by omega) hy h2 bx.1 bx.2 W
   obtain ⟨r2, hr2⟩ : ∃ r2, (rv * 18446744073709551616 + x) % y = r2 := ⟨_, rfl⟩
   have HR2 : Hid (r2 = up 18446744073709551616 xs k % y ∧ 0 ≤ r2 ∧ r2 < y) := by
    refine ⟨?_, by rw [← hr2]; exact Int.emod_nonneg _ (by omega), by rw [← hr2]; exact Int.emod_lt_of_pos _ hy⟩
    rw [← hr2, up_step _ (by have := HL.out.1; omega), hxd, HR.out, Int.add_comm x, Int.mul_comm 18446744073709551616, Int.add_emod, Int.mul_emod, Int.emod_emod, ← Int.mul_emod, ← Int.add_emod]
   rw [hr2] at hcon
   clear hr2 hxd hc
   go_wp2_with (go_at_call 141; refine (hcon _).mono ?_; rintro e w' ⟨rfl, n2, rfl⟩)
   go_roundw
   case rel => exact ⟨k, r2, by omega, by go_num, rfl, HR2.out.1, HR2.out.2, _, rfl⟩
   case measure => simp [intOf]
theorem top_parts {xs : List Int} {n s : Nat} (hW : Wd 18446744073709551616 xs) (hn : xs.length ≤ n + 2) (hs : s < 64) :
  ∃ K al : Int, K = 2 ^ (64 - s) * 18446744073709551616 ^ n ∧ 0 ≤ al ∧ al < K ∧ val 18446744073709551616 xs = (dig xs (n + 1) * 2 ^ s + dig xs n / 2 ^ (64 - s)) * K + al := by
 obtain ⟨P, R, hP, hR, hP0, hR0, hPR, hPi, hRi⟩ := pow_pair hs
 have e1 : V 18446744073709551616 xs 0 (n + 2) = V 18446744073709551616 xs 0 n + 18446744073709551616 ^ n * dig xs n + 18446744073709551616 ^ n * 18446744073709551616 * dig xs (n + 1) := by
  rw [show n + 2 = (n + 1) + 1 by omega, V_succ, V_succ, Int.pow_succ]
  simp only [Nat.zero_add]
 have e2 : V 18446744073709551616 xs 0 (n + 2) = val 18446744073709551616 xs := by
  rw [V_take, List.take_of_length_le hn]
 have b0 := V_nonneg (q := 18446744073709551616) (by decide) hW 0 n
 have b1 := V_lt (q := 18446744073709551616) (by decide) hW 0 n
 have hd := hW.dig (by decide) n
 obtain ⟨Q, hQ⟩ : ∃ Q : Int, (18446744073709551616 : Int) ^ n = Q := ⟨_, rfl⟩
 rw [hQ] at e1 b1
 rw [hRi, hPi]
 have hm0 := Int.emod_nonneg (dig xs n) (show (R : Int) ≠ 0 by omega)
 have hm1 := Int.emod_lt_of_pos (dig xs n) (show (0 : Int) < (R : Int) by omega)
 have hdm := Int.mul_ediv_add_emod (dig xs n) (R : Int)
 refine ⟨(R : Int) * Q, (dig xs n % (R : Int)) * Q + V 18446744073709551616 xs 0 n, by rw [hQ], Int.add_nonneg (Int.mul_nonneg hm0 (by omega)) b0, ?_, ?_⟩
 ·
  have h1 : (dig xs n % (R : Int) + 1) * Q ≤ (R : Int) * Q := Int.mul_le_mul_of_nonneg_right (by omega) (by omega)
  rw [Int.add_mul] at h1
  omega
 ·
  have hq : (18446744073709551616 : Int) = (P : Int) * (R : Int) := by rw [← Int.natCast_mul, hPR]; rfl
  rw [← e2, e1]
  obtain ⟨t, ht⟩ : ∃ t, dig xs n / (R : Int) = t := ⟨_, rfl⟩
  obtain ⟨r, hr⟩ : ∃ r, dig xs n % (R : Int) = r := ⟨_, rfl⟩
  rw [ht, hr] at hdm
  rw [ht, hr, ← hdm]
  have hq2 : (18446744073709551616 : Int) * dig xs (n + 1) = (P : Int) * (R : Int) * dig xs (n + 1) := by rw [← hq]
  grind
theorem top_le {A B K x y al be : Int} (hA : A = x * K + al) (hB : B = y * K + be) (ha0 : 0 ≤ al) (ha1 : al < K) (hb0 : 0 ≤ be) (hb1 : be < K) (h : B ≤ A) : y ≤ x := by
 rcases Int.lt_or_le x y with e | e
 ·
  have : (x + 1) * K ≤ y * K := Int.mul_le_mul_of_nonneg_right (by omega) (by omega)
  rw [Int.add_mul] at this
  omega
 ·
  exact e
def Seen (A B u0 v0 u1 v1 : Int) (odd : Bool) : Prop := v0 ≠ 0 → ∃ s : Int, s = (if odd then 1 else -1) ∧ u0 * v1 - u1 * v0 = -s ∧ 0 ≤ s * (u1 * A - v1 * B) ∧ s * (u1 * A - v1 * B) ≤ s * (v0 * B - u0 * A) ∧ s * (v0 * B - u0 * A) ≤ B ∧ s * (v0 * B - u0 * A) + s * (u1 * A - v1 * B) ≤ A
def Foreseen (w w' : World) (e : Ending) (A B : Int) : Prop := ∃ u0 v0 u1 v1 : Int, ∃ odd : Bool, e = .returned (.agg #[.int .u64 u0, .int .u64 v0, .int .u64 u1, .int .u64 v1, .bool odd]) ∧ ((0 ≤ u0 ∧ u0 < 18446744073709551616) ∧ (0 ≤ v0 ∧ v0 < 18446744073709551616) ∧ (0 ≤ u1 ∧ u1 < 18446744073709551616) ∧ (0 ≤ v1 ∧ v1 < 18446744073709551616)) ∧ Seen A B u0 v0 u1 v1 odd ∧ Below w.heap.size w w'
def ForeAt (A B x0 y0 x y u0 u1 u2 v0 v1 v2 : Int) (odd : Bool) : Prop := Fore A B x0 y0 x y u0 u1 u2 v0 v1 v2 (if odd then 1 else -1) ∧ u0 < 18446744073709551616 ∧ u1 < 18446744073709551616 ∧ u2 < 18446744073709551616 ∧ v0 < 18446744073709551616 ∧ v1 < 18446744073709551616 ∧ v2 < 18446744073709551616
theorem odd_flip (odd : Bool) : -(if odd then (1 : Int) else -1) = (if !odd then 1 else -1) := by cases odd <;> rfl
theorem ForeAt.step {A B K al be x0 y0 x y u0 u1 u2 v0 v1 v2 q r : Int} {odd : Bool} (h : ForeAt A B x0 y0 x y u0 u1 u2 v0 v1 v2 odd) (hA : A = x0 * K + al) (hB : B = y0 * K + be) (ha0 : 0 ≤ al) (ha1 : al < K) (hb0 : 0 ≤ be) (hb1 : be < K) (hBp : 0 ≤ B) (hx0 : x0 < 18446744073709551616) (hyx : y0 ≤ x0)
  (c1 : v2 ≤ y) (c2 : v1 + v2 ≤ x - y) (hq : x / y = q) (hr : x % y = r) : ForeAt A B x0 y0 y r u1 u2 (u1 + q * u2) v1 v2 (v1 + q * v2) (!odd) ∧ (0 ≤ q ∧ 0 ≤ q * u2 ∧ 0 ≤ q * v2) := by
 obtain ⟨hF, b1, b2, b3, b4, b5, b6⟩ := h
 obtain ⟨n1, n2, n3⟩ := hF.n0
 obtain ⟨m1, m2, m3⟩ := hF.n1
 have hy1 : 1 ≤ y := by omega
 have hm := Int.mul_ediv_add_emod x y
 have hr0 := Int.emod_nonneg x (show y ≠ 0 by omega)
 have hr1 := Int.emod_lt_of_pos x (show 0 < y by omega)
 rw [hq, hr] at hm
 rw [hr] at hr0 hr1
 have hq1 : 1 ≤ q := by
  rcases Int.lt_or_le q 1 with e | e
  ·
   have : y * q ≤ y * 0 := Int.mul_le_mul_of_nonneg_left (by omega) (by omega)
   have := hF.h1
   omega
  ·
   exact e
 have hS := hF.step hA hB ha0 ha1 hb0 hb1 c1 c2 (q := q) (r := r) (by rw [Int.mul_comm q y]; omega) hr0 hr1 hq1 hBp
 have hsm := hS.small hy1
 rw [odd_flip] at hS
 exact ⟨⟨hS, b2, b3, by omega, b5, b6, by omega⟩, by omega, Int.mul_nonneg (by omega) n3, Int.mul_nonneg (by omega) (by omega)⟩
theorem ForeAt.sum {A B x0 y0 x y u0 u1 u2 v0 v1 v2 : Int} {odd : Bool} (h : ForeAt A B x0 y0 x y u0 u1 u2 v0 v1 v2 odd) (hx0 : x0 < 18446744073709551616) (c1 : v2 ≤ y) : v1 + v2 ≤ 18446744073709551615 := by
 obtain ⟨hF, _⟩ := h
 obtain ⟨m1, m2, m3⟩ := hF.n1
 have h1 := hF.h1
 have a1 : v2 * 1 ≤ v2 * x := Int.mul_le_mul_of_nonneg_left (by omega) (by omega)
 have a2 : v1 * 1 ≤ v1 * y := Int.mul_le_mul_of_nonneg_left (by omega) m2
 have a3 := hF.ix
 omega
theorem below_made (w : World) (o : Obj) (k : Nat) : Below w.heap.size w ((w.alloc o).drewN k) := by
 have h : Below w.heap.size w (w.alloc o) := (Below.refl _ _).alloc (Nat.le_refl _) _
 exact ⟨h.os, h.tape, h.output, h.size, h.block⟩
theorem below_made5 (w : World) (o : Obj) (k : Nat) (v0 v1 v2 v3 v4 : Value) : Below w.heap.size w ((((((((w.alloc o).drewN k).setCell ⟨w.heap.size, 0, none⟩ v0).setCell ⟨w.heap.size, 1, none⟩ v1).setCell ⟨w.heap.size, 2, none⟩ v2).setCell ⟨w.heap.size, 3, none⟩ v3).setCell ⟨w.heap.size, 4, none⟩ v4)) :=
 (((((below_made w o k).setCell (p := ⟨w.heap.size, 0, none⟩) (Nat.le_refl _) v0).setCell (p := ⟨w.heap.size, 1, none⟩) (Nat.le_refl _) v1).setCell (p := ⟨w.heap.size, 2, none⟩) (Nat.le_refl _) v2).setCell (p := ⟨w.heap.size, 3, none⟩) (Nat.le_refl _) v3).setCell (p := ⟨w.heap.size, 4, none⟩) (Nat.le_refl _) v4
theorem foresee_any (bx ox N cx b2 oy m cy : Nat) (xs ys : List Int) (w : World) (hx : RowAt w .u64 (some ⟨bx, ox, none⟩) N cx xs) (hxW : Wd 18446744073709551616 xs) (hy : RowAt w .u64 (some ⟨b2, oy, none⟩) m cy ys) (hyW : Wd 18446744073709551616 ys) (hm : m ≤ N) (hm2 : 2 ≤ m) (hl : N ≤ 4294967296) (htop : dig xs (N - 1) ≠ 0) (hle : val 18446744073709551616 ys ≤ val 18446744073709551616 xs) :
  Calls Tryz.prog 139 #[.slice (some ⟨bx, ox, none⟩) N cx, .slice (some ⟨b2, oy, none⟩) m cy] w fun e w' => Foreseen w w' e (val 18446744073709551616 xs) (val 18446744073709551616 ys) := by
 obtain ⟨hbx, hcx⟩ := RowV.cells hx (by omega)
 obtain ⟨hby, hcy⟩ := RowV.cells hy (by omega)
 obtain ⟨n, hn⟩ : ∃ n, N = n + 2 := ⟨N - 2, by omega⟩
 obtain ⟨n1, hn1⟩ : ∃ n1, n1 = n + 1 := ⟨_, rfl⟩
 have i1 : (N : Int) - 1 = (n1 : Int) := by omega
 have i2 : (N : Int) - 2 = (n : Int) := by omega
 have j1 : n1 < N := by omega
 have j2 : n < N := by omega
 rw [show N - 1 = n1 by omega] at htop
 have hbW : Below w.heap.size w (w.alloc (.cells #[.int .u64 0, .int .u64 0, .int .u64 0, .int .u64 0, .bool false] 138)) := (Below.refl _ _).alloc (Nat.le_refl _) _
 have p1 : w.cell? ⟨bx, ox + n1, none⟩ = some (.int .u64 (dig xs n1)) := hcx n1 j1
 have p2 : w.cell? ⟨bx, ox + n, none⟩ = some (.int .u64 (dig xs n)) := hcx n j2
 have bz := hxW.dig (by decide) n1
 have bz2 := hxW.dig (by decide) n
 obtain ⟨z, hz⟩ : ∃ z, dig xs n1 = z := ⟨_, rfl⟩
 obtain ⟨z2, hz2⟩ : ∃ z2, dig xs n = z2 := ⟨_, rfl⟩
 rw [hz] at p1 bz htop
 rw [hz2] at p2 bz2
 obtain ⟨s, hs, hs64, hs1, hs2⟩ := lead_ex z (by omega) bz.2
 have hcon := fun W => leading_any z W bz.1 (by omega)
 rw [hs] at hcon
 obtain ⟨K, al, hK, ha0, ha1, hAe⟩ := top_parts (n := n) hxW (by rw [← hx.hlen]; omega) hs64
 obtain ⟨K', be, hK', hb0, hb1, hBe⟩ := top_parts (n := n) hyW (by rw [← hy.hlen]; omega) hs64
 rw [← hK] at hK'
 replace hK' := hK'.symm
 subst hK'
 rw [← hn1, hz, hz2] at hAe
 rw [← hn1] at hBe
 obtain ⟨P, R, _, _, hP0, hR0, hPR, hPi, hRi⟩ := pow_pair hs64
 have ob : ∀ t : Int, 0 ≤ t → t < 18446744073709551616 → 0 ≤ t / 2 ^ (64 - s) ∧ t / 2 ^ (64 - s) < 2 ^ s := fun t h0 h1 => by
  rw [hRi, hPi]
  refine ⟨Int.ediv_nonneg h0 (by omega), Int.ediv_lt_of_lt_mul (by omega) ?_⟩
  rw [← Int.natCast_mul, hPR]; exact h1
 obtain ⟨x0, c0, hor, hdv, hx0b, hc0b, hxe⟩ := up_ex z s (z2 / 2 ^ (64 - s)) hs64 bz (ob z2 bz2.1 bz2.2)
 have hx0e : x0 = z * 2 ^ s + z2 / 2 ^ (64 - s) := by
  have h1 := (ob z2 bz2.1 bz2.2).2
  rw [Int.add_mul, Int.one_mul] at hs2
  rcases Int.lt_or_le c0 1 with e | e
  ·
   have : c0 = 0 := by omega
   rw [this] at hxe; omega
  ·
   exfalso; have := hx0b.1; omega
 rw [← hx0e] at hAe
 have hyx := top_le hAe hBe ha0 ha1 hb0 hb1 hle
 have bt := hyW.dig (by decide) n1
 have bt2 := hyW.dig (by decide) n
 obtain ⟨o1, ho1⟩ : ∃ o1, z2 / 2 ^ (64 - s) = o1 := ⟨_, rfl⟩
 rw [ho1] at hor
 obtain ⟨y0, hy0⟩ : ∃ y0, dig ys n1 * 2 ^ s + dig ys n / 2 ^ (64 - s) = y0 := ⟨_, rfl⟩
 rw [hy0] at hBe hyx
 have hy0n : 0 ≤ y0 := by
  rw [← hy0]
  have h1 := (ob (dig ys n) bt2.1 bt2.2).1
  have h2 : 0 ≤ dig ys n1 * 2 ^ s := Int.mul_nonneg bt.1 (by rw [hPi]; omega)
  omega
 have hBp : 0 ≤ val 18446744073709551616 ys := val_nonneg (by decide) hyW
 have HM : Hid ((val 18446744073709551616 xs = x0 * K + al ∧ val 18446744073709551616 ys = y0 * K + be) ∧ (0 ≤ al ∧ al < K) ∧ (0 ≤ be ∧ be < K) ∧ 0 ≤ val 18446744073709551616 ys) := ⟨⟨hAe, hBe⟩, ⟨ha0, ha1⟩, ⟨hb0, hb1⟩, hBp⟩
 obtain ⟨A, hA⟩ : ∃ A, val 18446744073709551616 xs = A := ⟨_, rfl⟩
 obtain ⟨B, hB⟩ : ∃ B, val 18446744073709551616 ys = B := ⟨_, rfl⟩
 rw [hA, hB] at HM
 rw [hA, hB]
 obtain ⟨hx00, hx01⟩ := hx0b
 have hs64' : (s : Int) ≤ 64 := by omega
 have HN : Hid (N = n + 2 ∧ n1 = n + 1 ∧ m = ys.length) := ⟨hn, hn1, hy.hlen⟩
 have HY : Hid (dig ys n1 * 2 ^ s + dig ys n / 2 ^ (64 - s) = y0) := hy0
 have HOB : Hid (∀ t : Int, 0 ≤ t → t < 18446744073709551616 → 0 ≤ t / 2 ^ (64 - s) ∧ t / 2 ^ (64 - s) < 2 ^ s) := ob
 have HBT : Hid ((0 ≤ dig ys n1 ∧ dig ys n1 < 18446744073709551616) ∧ (0 ≤ dig ys n ∧ dig ys n < 18446744073709551616)) := ⟨bt, bt2⟩
 have HCY : Hid (∀ t, t < m → w.cell? ⟨b2, oy + t, none⟩ = some (.int .u64 (dig ys t))) := hcy
 clear hx hy hxW hyW hle hcx hcy hK hb0 hb1 ha0 ha1 hAe hBe hA hB hs1 hs2 hs hxe hx0e hc0b hdv hy0 hn hn1 hBp ob bt bt2 htop hz hz2 hP0 hR0 hPR hPi hRi c0 bz2
 obtain ⟨hz0, hz1⟩ := bz
 by_cases e1 : m = N
 ·
  subst e1
  have q1 : w.cell? ⟨b2, oy + n1, none⟩ = some (.int .u64 (dig ys n1)) := HCY.out n1 j1
  have q2 : w.cell? ⟨b2, oy + n, none⟩ = some (.int .u64 (dig ys n)) := HCY.out n j2
  have hq1 := HBT.out.1
  have hq2 := HBT.out.2
  have HY2 := HY.out
  obtain ⟨t, ht⟩ : ∃ t, dig ys n1 = t := ⟨_, rfl⟩
  obtain ⟨t2, ht2⟩ : ∃ t2, dig ys n = t2 := ⟨_, rfl⟩
  rw [ht] at q1 hq1 HY2
  rw [ht2] at q2 hq2 HY2
  obtain ⟨y1, c9, hor2, _, hy1b, hc9, hye⟩ := up_ex t s (t2 / 2 ^ (64 - s)) hs64 hq1 (HOB.out t2 hq2.1 hq2.2)
  have hy01 : y1 = y0 := by
   rw [HY2] at hye
   rcases Int.lt_or_le c9 1 with e | e
   ·
    have : c9 = 0 := by omega
    rw [this] at hye; omega
   ·
    exfalso; have := hy1b.1; omega
  rw [hy01] at hor2
  obtain ⟨o2, ho2⟩ : ∃ o2, t2 / 2 ^ (64 - s) = o2 := ⟨_, rfl⟩
  rw [ho2] at hor2
  clear HY2 hye hy01 hc9 hy1b hq1 hq2 ht ht2
  go_enter Tryz.func139, Tryz.ntmps139
  go_wp2_with (go_at_call 135; refine (hcon _).mono ?_; rintro e w1 ⟨rfl, hw1⟩; replace hw1 := hw1.symm; subst hw1)
  go_quiet (fail)
  go_wp2
  go_quiet (fail)
  go_wp2
  go_loopw [8, 9, 10, 11, 12, 13, 14, 15, 16] (fun c8 c9 c10 c11 c12 c13 c14 c15 c16 wr => ∃ (x y u0 u1 u2 v0 v1 v2 : Int) (odd : Bool), c8 = .int .u64 x ∧ c9 = .int .u64 y ∧ c10 = .int .u64 u0 ∧ c11 = .int .u64 u1 ∧ c12 = .int .u64 u2 ∧ c13 = .int .u64 v0 ∧ c14 = .int .u64 v1 ∧ c15 = .int .u64 v2 ∧ c16 = .bool odd ∧ ForeAt A B x0 y0 x y u0 u1 u2 v0 v1 v2 odd ∧ ∃ k, wr = (w.alloc (.cells #[.int .u64 0, .int .u64 0, .int .u64 0, .int .u64 0, .bool false] 138)).drewN k) (fun _ c9 _ _ _ _ _ _ _ _ => (intOf c9).toNat)
  case atStart => (refine ⟨x0, y0, 0, 1, 0, 0, 0, 1, true, rfl, (by first | rfl | rw [HY2.out]), rfl, rfl, rfl, rfl, rfl, rfl, rfl, ⟨Fore.start hy0n hyx, by decide, by decide, by decide, by decide, by decide, by decide⟩, ?_⟩; first | exact ⟨_, World.drewN_drewN _ _ _⟩ | exact ⟨_, rfl⟩)
  case round =>
   obtain ⟨x, y, u0, u1, u2, v0, v1, v2, odd, rfl, rfl, rfl, rfl, rfl, rfl, rfl, rfl, rfl, hF, k, rfl⟩ := hrel
   have HF : Hid (ForeAt A B x0 y0 x y u0 u1 u2 v0 v1 v2 odd) := hF
   obtain ⟨f1, f2, f3, f4, f5, f6, f7⟩ := hF
   obtain ⟨f8, f9, f10⟩ := f1.n0
   obtain ⟨f11, f12, f13⟩ := f1.n1
   have f14 := f1.h0
   have f15 := f1.h1
   have f16 : x ≤ 18446744073709551615 := by
    have a1 := f1.ix
    have a2 : 1 * x ≤ v2 * x := Int.mul_le_mul_of_nonneg_right f13 (by omega)
    have a3 := Int.mul_nonneg f12 f14
    omega
   have HB : Hid (Seen A B u0 v0 u1 v1 odd) := fun hv => ⟨_, rfl, f1.ends hv⟩
   clear f1
   have g0 : 0 ≤ x - y := by omega
   have g1 : x - y ≤ 18446744073709551615 := by omega
   have g2 : 0 ≤ v1 + v2 := by omega
   by_cases c1 : v2 ≤ y
   ·
    have g3 := HF.out.sum hx01 c1
    by_cases c2 : v1 + v2 ≤ x - y
    ·
     obtain ⟨q, hq⟩ : ∃ q, x / y = q := ⟨_, rfl⟩
     obtain ⟨r, hr⟩ : ∃ r, x % y = r := ⟨_, rfl⟩
     have hS := HF.out.step HM.out.1.1 HM.out.1.2 HM.out.2.1.1 HM.out.2.1.2 HM.out.2.2.1.1 HM.out.2.2.1.2 HM.out.2.2.2 hx01 hyx c1 c2 hq hr
     have hy1 : 0 < y := by omega
     have t1 : x.tdiv y = q := by rw [Int.tdiv_eq_ediv_of_nonneg (by omega)]; exact hq
     have t2 : x.tmod y = r := by rw [Int.tmod_eq_emod_of_nonneg (by omega)]; exact hr
     have t3 : (y == 0) = false := by simp; omega
     have hry : 0 ≤ r ∧ r < y := ⟨by rw [← hr]; exact Int.emod_nonneg _ (by omega), by rw [← hr]; exact Int.emod_lt_of_pos _ hy1⟩
     obtain ⟨hr0, hr1⟩ := hry
     have HS : Hid (ForeAt A B x0 y0 y r u1 u2 (u1 + q * u2) v1 v2 (v1 + q * v2) (!odd)) := hS.1
     have h1 : 0 ≤ q := hS.2.1
     have h2 : 0 ≤ q * u2 := hS.2.2.1
     have h3 : 0 ≤ q * v2 := hS.2.2.2
     have h4 : u1 + q * u2 ≤ 18446744073709551615 := by have := hS.1.2.2.2.1; omega
     have h5 : v1 + q * v2 ≤ 18446744073709551615 := by have := hS.1.2.2.2.2.2.2; omega
     have h6 : q * u2 ≤ 18446744073709551615 := by omega
     have h7 : q * v2 ≤ 18446744073709551615 := by omega
     have h8 : 0 ≤ u1 + q * u2 := by omega
     have h9 : 0 ≤ v1 + q * v2 := by omega
     have hqx : q ≤ 18446744073709551615 := by
      have a1 := Int.mul_ediv_add_emod x y
      rw [hq, hr] at a1
      have a2 : 1 * q ≤ y * q := Int.mul_le_mul_of_nonneg_right hy1 h1
      omega
     clear hq hr hS
     go_wp2
     go_quiet (fail)
     go_wp2
     go_roundw
     case rel => (refine ⟨y, r, u1, u2, u1 + q * u2, v1, v2, v1 + q * v2, !odd, rfl, rfl, by go_num, rfl, by go_num, rfl, rfl, by go_num, rfl, HS.out, ?_⟩; first | exact ⟨_, World.drewN_drewN _ _ _⟩ | exact ⟨_, rfl⟩)
     case measure => simp [intOf]; omega
    ·
     have c2' : x - y < v1 + v2 := by omega
     go_wp2
     exact bodyPost_ret (v := .agg #[.int .u64 u0, .int .u64 v0, .int .u64 u1, .int .u64 v1, .bool odd]) (by simp [results, Tryz.results139, go_sem]) rfl
      ⟨u0, v0, u1, v1, odd, rfl, ⟨⟨f8, f2⟩, ⟨f11, f5⟩, ⟨f9, f3⟩, ⟨f12, f6⟩⟩, HB.out, below_made5 w _ _ _ _ _ _ _⟩
   ·
    have c1' : y < v2 := by omega
    go_wp2
    exact bodyPost_ret (v := .agg #[.int .u64 u0, .int .u64 v0, .int .u64 u1, .int .u64 v1, .bool odd]) (by simp [results, Tryz.results139, go_sem]) rfl
     ⟨u0, v0, u1, v1, odd, rfl, ⟨⟨f8, f2⟩, ⟨f11, f5⟩, ⟨f9, f3⟩, ⟨f12, f6⟩⟩, HB.out, below_made5 w _ _ _ _ _ _ _⟩
 ·
  by_cases e2 : m = n1
  ·
   have q2 : w.cell? ⟨b2, oy + n, none⟩ = some (.int .u64 (dig ys n)) := HCY.out n (by have := HN.out; omega)
   have HY2 := HY.out
   have h0 : dig ys n1 = 0 := by have := HN.out.2.2; simp [dig, List.getElem?_eq_none (show ys.length ≤ n1 by omega)]
   rw [h0, Int.zero_mul, Int.zero_add] at HY2
   obtain ⟨t2, ht2⟩ : ∃ t2, dig ys n = t2 := ⟨_, rfl⟩
   rw [ht2] at q2 HY2
   have k1 : (N : Int) - (m : Int) = 1 := by have := HN.out; omega
   clear h0 e1 e2
   go_enter Tryz.func139, Tryz.ntmps139
   go_wp2_with (go_at_call 135; refine (hcon _).mono ?_; rintro e w1 ⟨rfl, hw1⟩; replace hw1 := hw1.symm; subst hw1)
   go_quiet (fail)
   go_wp2
   go_loopw [8, 9, 10, 11, 12, 13, 14, 15, 16] (fun c8 c9 c10 c11 c12 c13 c14 c15 c16 wr => ∃ (x y u0 u1 u2 v0 v1 v2 : Int) (odd : Bool), c8 = .int .u64 x ∧ c9 = .int .u64 y ∧ c10 = .int .u64 u0 ∧ c11 = .int .u64 u1 ∧ c12 = .int .u64 u2 ∧ c13 = .int .u64 v0 ∧ c14 = .int .u64 v1 ∧ c15 = .int .u64 v2 ∧ c16 = .bool odd ∧ ForeAt A B x0 y0 x y u0 u1 u2 v0 v1 v2 odd ∧ ∃ k, wr = (w.alloc (.cells #[.int .u64 0, .int .u64 0, .int .u64 0, .int .u64 0, .bool false] 138)).drewN k) (fun _ c9 _ _ _ _ _ _ _ _ => (intOf c9).toNat)
   case atStart => (refine ⟨x0, y0, 0, 1, 0, 0, 0, 1, true, rfl, (by first | rfl | rw [HY2.out]), rfl, rfl, rfl, rfl, rfl, rfl, rfl, ⟨Fore.start hy0n hyx, by decide, by decide, by decide, by decide, by decide, by decide⟩, ?_⟩; first | exact ⟨_, World.drewN_drewN _ _ _⟩ | exact ⟨_, rfl⟩)
   case round =>
    obtain ⟨x, y, u0, u1, u2, v0, v1, v2, odd, rfl, rfl, rfl, rfl, rfl, rfl, rfl, rfl, rfl, hF, k, rfl⟩ := hrel
    have HF : Hid (ForeAt A B x0 y0 x y u0 u1 u2 v0 v1 v2 odd) := hF
    obtain ⟨f1, f2, f3, f4, f5, f6, f7⟩ := hF
    obtain ⟨f8, f9, f10⟩ := f1.n0
    obtain ⟨f11, f12, f13⟩ := f1.n1
    have f14 := f1.h0
    have f15 := f1.h1
    have f16 : x ≤ 18446744073709551615 := by
     have a1 := f1.ix
     have a2 : 1 * x ≤ v2 * x := Int.mul_le_mul_of_nonneg_right f13 (by omega)
     have a3 := Int.mul_nonneg f12 f14
     omega
    have HB : Hid (Seen A B u0 v0 u1 v1 odd) := fun hv => ⟨_, rfl, f1.ends hv⟩
    clear f1
    have g0 : 0 ≤ x - y := by omega
    have g1 : x - y ≤ 18446744073709551615 := by omega
    have g2 : 0 ≤ v1 + v2 := by omega
    by_cases c1 : v2 ≤ y
    ·
     have g3 := HF.out.sum hx01 c1
     by_cases c2 : v1 + v2 ≤ x - y
     ·
      obtain ⟨q, hq⟩ : ∃ q, x / y = q := ⟨_, rfl⟩
      obtain ⟨r, hr⟩ : ∃ r, x % y = r := ⟨_, rfl⟩
      have hS := HF.out.step HM.out.1.1 HM.out.1.2 HM.out.2.1.1 HM.out.2.1.2 HM.out.2.2.1.1 HM.out.2.2.1.2 HM.out.2.2.2 hx01 hyx c1 c2 hq hr
      have hy1 : 0 < y := by omega
      have t1 : x.tdiv y = q := by rw [Int.tdiv_eq_ediv_of_nonneg (by omega)]; exact hq
      have t2 : x.tmod y = r := by rw [Int.tmod_eq_emod_of_nonneg (by omega)]; exact hr
      have t3 : (y == 0) = false := by simp; omega
      have hry : 0 ≤ r ∧ r < y := ⟨by rw [← hr]; exact Int.emod_nonneg _ (by omega), by rw [← hr]; exact Int.emod_lt_of_pos _ hy1⟩
      obtain ⟨hr0, hr1⟩ := hry
      have HS : Hid (ForeAt A B x0 y0 y r u1 u2 (u1 + q * u2) v1 v2 (v1 + q * v2) (!odd)) := hS.1
      have h1 : 0 ≤ q := hS.2.1
      have h2 : 0 ≤ q * u2 := hS.2.2.1
      have h3 : 0 ≤ q * v2 := hS.2.2.2
      have h4 : u1 + q * u2 ≤ 18446744073709551615 := by have := hS.1.2.2.2.1; omega
      have h5 : v1 + q * v2 ≤ 18446744073709551615 := by have := hS.1.2.2.2.2.2.2; omega
      have h6 : q * u2 ≤ 18446744073709551615 := by omega
      have h7 : q * v2 ≤ 18446744073709551615 := by omega
      have h8 : 0 ≤ u1 + q * u2 := by omega
      have h9 : 0 ≤ v1 + q * v2 := by omega
      have hqx : q ≤ 18446744073709551615 := by
       have a1 := Int.mul_ediv_add_emod x y
       rw [hq, hr] at a1
       have a2 : 1 * q ≤ y * q := Int.mul_le_mul_of_nonneg_right hy1 h1
       omega
      clear hq hr hS
      go_wp2
      go_quiet (fail)
      go_wp2
      go_roundw
      case rel => (refine ⟨y, r, u1, u2, u1 + q * u2, v1, v2, v1 + q * v2, !odd, rfl, rfl, by go_num, rfl, by go_num, rfl, rfl, by go_num, rfl, HS.out, ?_⟩; first | exact ⟨_, World.drewN_drewN _ _ _⟩ | exact ⟨_, rfl⟩)
      case measure => simp [intOf]; omega
     ·
      have c2' : x - y < v1 + v2 := by omega
      go_wp2
      exact bodyPost_ret (v := .agg #[.int .u64 u0, .int .u64 v0, .int .u64 u1, .int .u64 v1, .bool odd]) (by simp [results, Tryz.results139, go_sem]) rfl
       ⟨u0, v0, u1, v1, odd, rfl, ⟨⟨f8, f2⟩, ⟨f11, f5⟩, ⟨f9, f3⟩, ⟨f12, f6⟩⟩, HB.out, below_made5 w _ _ _ _ _ _ _⟩
    ·
     have c1' : y < v2 := by omega
     go_wp2
     exact bodyPost_ret (v := .agg #[.int .u64 u0, .int .u64 v0, .int .u64 u1, .int .u64 v1, .bool odd]) (by simp [results, Tryz.results139, go_sem]) rfl
      ⟨u0, v0, u1, v1, odd, rfl, ⟨⟨f8, f2⟩, ⟨f11, f5⟩, ⟨f9, f3⟩, ⟨f12, f6⟩⟩, HB.out, below_made5 w _ _ _ _ _ _ _⟩
  ·
   have HY2 : Hid (y0 = 0) := by
    show _ = _
    have := HN.out
    have h0 : dig ys n1 = 0 := by simp [dig, List.getElem?_eq_none (show ys.length ≤ n1 by omega)]
    have h1 : dig ys n = 0 := by simp [dig, List.getElem?_eq_none (show ys.length ≤ n by omega)]
    rw [← HY.out, h0, h1]; simp
   obtain ⟨dm, hdm⟩ : ∃ dm, (N : Int) - (m : Int) = dm := ⟨_, rfl⟩
   have k0 : (dm == 0) = false := by simp; omega
   have k1 : (dm == 1) = false := by simp; have := HN.out; omega
   clear e1 e2
   go_enter Tryz.func139, Tryz.ntmps139
   go_wp2_with (go_at_call 135; refine (hcon _).mono ?_; rintro e w1 ⟨rfl, hw1⟩; replace hw1 := hw1.symm; subst hw1)
   go_quiet (fail)
   go_wp2
   go_loopw [8, 9, 10, 11, 12, 13, 14, 15, 16] (fun c8 c9 c10 c11 c12 c13 c14 c15 c16 wr => ∃ (x y u0 u1 u2 v0 v1 v2 : Int) (odd : Bool), c8 = .int .u64 x ∧ c9 = .int .u64 y ∧ c10 = .int .u64 u0 ∧ c11 = .int .u64 u1 ∧ c12 = .int .u64 u2 ∧ c13 = .int .u64 v0 ∧ c14 = .int .u64 v1 ∧ c15 = .int .u64 v2 ∧ c16 = .bool odd ∧ ForeAt A B x0 y0 x y u0 u1 u2 v0 v1 v2 odd ∧ ∃ k, wr = (w.alloc (.cells #[.int .u64 0, .int .u64 0, .int .u64 0, .int .u64 0, .bool false] 138)).drewN k) (fun _ c9 _ _ _ _ _ _ _ _ => (intOf c9).toNat)
   case atStart => (refine ⟨x0, y0, 0, 1, 0, 0, 0, 1, true, rfl, (by first | rfl | rw [HY2.out]), rfl, rfl, rfl, rfl, rfl, rfl, rfl, ⟨Fore.start hy0n hyx, by decide, by decide, by decide, by decide, by decide, by decide⟩, ?_⟩; first | exact ⟨_, World.drewN_drewN _ _ _⟩ | exact ⟨_, rfl⟩)
   case round =>
    obtain ⟨x, y, u0, u1, u2, v0, v1, v2, odd, rfl, rfl, rfl, rfl, rfl, rfl, rfl, rfl, rfl, hF, k, rfl⟩ := hrel
    have HF : Hid (ForeAt A B x0 y0 x y u0 u1 u2 v0 v1 v2 odd) := hF
    obtain ⟨f1, f2, f3, f4, f5, f6, f7⟩ := hF
    obtain ⟨f8, f9, f10⟩ := f1.n0
    obtain ⟨f11, f12, f13⟩ := f1.n1
    have f14 := f1.h0
    have f15 := f1.h1
    have f16 : x ≤ 18446744073709551615 := by
     have a1 := f1.ix
     have a2 : 1 * x ≤ v2 * x := Int.mul_le_mul_of_nonneg_right f13 (by omega)
     have a3 := Int.mul_nonneg f12 f14
     omega
    have HB : Hid (Seen A B u0 v0 u1 v1 odd) := fun hv => ⟨_, rfl, f1.ends hv⟩
    clear f1
    have g0 : 0 ≤ x - y := by omega
    have g1 : x - y ≤ 18446744073709551615 := by omega
    have g2 : 0 ≤ v1 + v2 := by omega
    by_cases c1 : v2 ≤ y
    ·
     have g3 := HF.out.sum hx01 c1
     by_cases c2 : v1 + v2 ≤ x - y
     ·
      obtain ⟨q, hq⟩ : ∃ q, x / y = q := ⟨_, rfl⟩
      obtain ⟨r, hr⟩ : ∃ r, x % y = r := ⟨_, rfl⟩
      have hS := HF.out.step HM.out.1.1 HM.out.1.2 HM.out.2.1.1 HM.out.2.1.2 HM.out.2.2.1.1 HM.out.2.2.1.2 HM.out.2.2.2 hx01 hyx c1 c2 hq hr
      have hy1 : 0 < y := by omega
      have t1 : x.tdiv y = q := by rw [Int.tdiv_eq_ediv_of_nonneg (by omega)]; exact hq
      have t2 : x.tmod y = r := by rw [Int.tmod_eq_emod_of_nonneg (by omega)]; exact hr
      have t3 : (y == 0) = false := by simp; omega
      have hry : 0 ≤ r ∧ r < y := ⟨by rw [← hr]; exact Int.emod_nonneg _ (by omega), by rw [← hr]; exact Int.emod_lt_of_pos _ hy1⟩
      obtain ⟨hr0, hr1⟩ := hry
      have HS : Hid (ForeAt A B x0 y0 y r u1 u2 (u1 + q * u2) v1 v2 (v1 + q * v2) (!odd)) := hS.1
      have h1 : 0 ≤ q := hS.2.1
      have h2 : 0 ≤ q * u2 := hS.2.2.1
      have h3 : 0 ≤ q * v2 := hS.2.2.2
      have h4 : u1 + q * u2 ≤ 18446744073709551615 := by have := hS.1.2.2.2.1; omega
      have h5 : v1 + q * v2 ≤ 18446744073709551615 := by have := hS.1.2.2.2.2.2.2; omega
      have h6 : q * u2 ≤ 18446744073709551615 := by omega
      have h7 : q * v2 ≤ 18446744073709551615 := by omega
      have h8 : 0 ≤ u1 + q * u2 := by omega
      have h9 : 0 ≤ v1 + q * v2 := by omega
      have hqx : q ≤ 18446744073709551615 := by
       have a1 := Int.mul_ediv_add_emod x y
       rw [hq, hr] at a1
       have a2 : 1 * q ≤ y * q := Int.mul_le_mul_of_nonneg_right hy1 h1
       omega
      clear hq hr hS
      go_wp2
      go_quiet (fail)
      go_wp2
      go_roundw
      case rel => (refine ⟨y, r, u1, u2, u1 + q * u2, v1, v2, v1 + q * v2, !odd, rfl, rfl, by go_num, rfl, by go_num, rfl, rfl, by go_num, rfl, HS.out, ?_⟩; first | exact ⟨_, World.drewN_drewN _ _ _⟩ | exact ⟨_, rfl⟩)
      case measure => simp [intOf]; omega
     ·
      have c2' : x - y < v1 + v2 := by omega
      go_wp2
      exact bodyPost_ret (v := .agg #[.int .u64 u0, .int .u64 v0, .int .u64 u1, .int .u64 v1, .bool odd]) (by simp [results, Tryz.results139, go_sem]) rfl
       ⟨u0, v0, u1, v1, odd, rfl, ⟨⟨f8, f2⟩, ⟨f11, f5⟩, ⟨f9, f3⟩, ⟨f12, f6⟩⟩, HB.out, below_made5 w _ _ _ _ _ _ _⟩
    ·
     have c1' : y < v2 := by omega
     go_wp2
     exact bodyPost_ret (v := .agg #[.int .u64 u0, .int .u64 v0, .int .u64 u1, .int .u64 v1, .bool odd]) (by simp [results, Tryz.results139, go_sem]) rfl
      ⟨u0, v0, u1, v1, odd, rfl, ⟨⟨f8, f2⟩, ⟨f11, f5⟩, ⟨f9, f3⟩, ⟨f12, f6⟩⟩, HB.out, below_made5 w _ _ _ _ _ _ _⟩
def renT : Go.Shelf.Ren := ⟨fun _ => 116, fun x => if x = 0 then 0 else if x = 3 then 3 else if x = 4 then 4 else if x = 5 then 5 else if x = 22 then 60 else if x = 25 then 108 else 133, fun _ => 0⟩
theorem lays29 : Lays7.n29 Tryz.prog renT := by
 constructor <;> first | (intro w; kernel_rfl) | kernel_rfl
theorem trailing_any (x : Nat) (w : World) (hx : x < 18446744073709551616) (hT : TabAt 0 Lib.deBruijn64tab w) :
  Calls Tryz.prog 116 #[.int .u64 (x : Int)] w fun e w' => e = .returned (.int .i64 (Lib.ctz 64 x)) ∧ w' = w :=
 Any7.bits_TrailingZeros64 lays29 x hx w fun _ => hT
theorem ctz_spec {x : Nat} (h0 : x ≠ 0) (h : x < 18446744073709551616) : ∃ m, x = 2 ^ Lib.ctz 64 x * (2 * m + 1) ∧ Lib.ctz 64 x < 64 := by
 have e : Lib.ctz 64 x = Lib.ctzFrom 64 x := by simp [Lib.ctz, h0]
 rw [e]
 exact Lib.ctzFrom_spec 64 x (by omega) h
theorem two_parts {a b m n : Nat} (h : 2 ^ a * (2 * m + 1) = 2 ^ b * (2 * n + 1)) : a = b := by
 rcases Nat.lt_trichotomy a b with e | e | e
 ·
  exfalso
  obtain ⟨d, rfl⟩ : ∃ d, b = a + (d + 1) := ⟨b - a - 1, by omega⟩
  rw [Nat.pow_add, Nat.mul_assoc] at h
  have := Nat.eq_of_mul_eq_mul_left (Nat.two_pow_pos a) h
  rw [Nat.pow_succ] at this
  have e2 : 2 ^ d * 2 * (2 * n + 1) = 2 * (2 ^ d * (2 * n + 1)) := by rw [Nat.mul_comm (2 ^ d) 2, Nat.mul_assoc]
  omega
 ·
  exact e
 ·
  exfalso
  obtain ⟨d, rfl⟩ : ∃ d, a = b + (d + 1) := ⟨a - b - 1, by omega⟩
  rw [Nat.pow_add, Nat.mul_assoc] at h
  have := Nat.eq_of_mul_eq_mul_left (Nat.two_pow_pos b) h
  rw [Nat.pow_succ] at this
  have e2 : 2 ^ d * 2 * (2 * m + 1) = 2 * (2 ^ d * (2 * m + 1)) := by rw [Nat.mul_comm (2 ^ d) 2, Nat.mul_assoc]
  omega
theorem odd_coprime (m k : Nat) : Nat.Coprime (2 ^ k) (2 * m + 1) := by
 apply Nat.Coprime.pow_left
 show Nat.gcd 2 (2 * m + 1) = 1
 rw [Nat.gcd_rec, show (2 * m + 1) % 2 = 1 by omega]
 simp
theorem gcd_shift {x m k : Nat} (hx : x % 2 = 1) : Nat.gcd x (2 ^ k * m) = Nat.gcd x m := by
 obtain ⟨a, rfl⟩ : ∃ a, x = 2 * a + 1 := ⟨x / 2, by omega⟩
 exact Nat.Coprime.gcd_mul_left_cancel_right m (odd_coprime a k)
theorem gcd_twos (a b : Nat) : Nat.gcd (2 ^ b) (2 ^ a) = 2 ^ min a b := by
 rcases Nat.le_total a b with h | h
 ·
  rw [Nat.min_eq_left h]; exact Nat.gcd_eq_right (Nat.pow_dvd_pow 2 h)
 ·
  rw [Nat.min_eq_right h]; exact Nat.gcd_eq_left (Nat.pow_dvd_pow 2 h)
theorem ctz_or {x y : Nat} (hx : x ≠ 0) (hy : y ≠ 0) (hx1 : x < 18446744073709551616) (hy1 : y < 18446744073709551616) (ho : x ||| y < 18446744073709551616) : Lib.ctz 64 (x ||| y) = min (Lib.ctz 64 x) (Lib.ctz 64 y) := by
 obtain ⟨m, hm, _⟩ := ctz_spec hx hx1
 obtain ⟨n, hn, _⟩ := ctz_spec hy hy1
 have h0 : x ||| y ≠ 0 := fun e => hx (Nat.or_eq_zero_iff.1 e).1
 obtain ⟨k, hk, _⟩ := ctz_spec h0 ho
 obtain ⟨a, ha⟩ : ∃ a, Lib.ctz 64 x = a := ⟨_, rfl⟩
 obtain ⟨b, hb⟩ : ∃ b, Lib.ctz 64 y = b := ⟨_, rfl⟩
 rw [ha] at hm ⊢
 rw [hb] at hn ⊢
 have key : ∀ c x' y' : Nat, x = 2 ^ c * x' → y = 2 ^ c * y' → (x' % 2 = 1 ∨ y' % 2 = 1) → Lib.ctz 64 (x ||| y) = c := by
  intro c x' y' e1 e2 h
  have e3 : x ||| y = 2 ^ c * (x' ||| y') := by
   rw [e1, e2, Nat.mul_comm _ x', Nat.mul_comm _ y', Nat.mul_comm _ (x' ||| y'), ← Nat.shiftLeft_eq, ← Nat.shiftLeft_eq, ← Nat.shiftLeft_eq, Nat.shiftLeft_or_distrib]
  have h1 : (x' ||| y') % 2 = 1 := Nat.or_mod_two_eq_one.2 h
  obtain ⟨j, hj⟩ : ∃ j, x' ||| y' = 2 * j + 1 := ⟨(x' ||| y') / 2, by omega⟩
  rw [hj] at e3
  exact two_parts (hk.symm.trans e3)
 rcases Nat.le_total a b with h | h
 ·
  rw [Nat.min_eq_left h]
  refine key a (2 * m + 1) (2 ^ (b - a) * (2 * n + 1)) hm ?_ (Or.inl (by omega))
  rw [← Nat.mul_assoc, ← Nat.pow_add, show a + (b - a) = b by omega]; exact hn
 ·
  rw [Nat.min_eq_right h]
  refine key b (2 ^ (a - b) * (2 * m + 1)) (2 * n + 1) ?_ hn (Or.inr (by omega))
  rw [← Nat.mul_assoc, ← Nat.pow_add, show b + (a - b) = a by omega]; exact hm
theorem gcd_split {x y m : Nat} (hy : y ≠ 0) (hy1 : y < 18446744073709551616) {a : Nat} (hm : x = 2 ^ a * (2 * m + 1)) : Nat.gcd x y = Nat.gcd (2 * m + 1) y * 2 ^ min a (Lib.ctz 64 y) := by
 obtain ⟨n, hn, _⟩ := ctz_spec hy hy1
 obtain ⟨b, hb⟩ : ∃ b, Lib.ctz 64 y = b := ⟨_, rfl⟩
 rw [hb] at hn ⊢
 have e1 : Nat.gcd y (2 ^ a) = 2 ^ min a b := by
  rw [hn, Nat.Coprime.gcd_mul_right_cancel _ (Nat.Coprime.symm (odd_coprime n a)), gcd_twos]
 rw [Nat.gcd_comm x y, hm, Nat.Coprime.gcd_mul y (odd_coprime m a), e1, Nat.mul_comm, Nat.gcd_comm y]
theorem gcd_round {x y k m : Nat} (hx : x % 2 = 1) (hy : y = 2 ^ k * (2 * m + 1)) : Nat.gcd (min x (2 * m + 1)) (max x (2 * m + 1) - min x (2 * m + 1)) = Nat.gcd x y := by
 rw [hy, gcd_shift hx]
 rcases Nat.le_total x (2 * m + 1) with h | h
 ·
  rw [Nat.min_eq_left h, Nat.max_eq_right h, Nat.gcd_sub_self_right h]
 ·
  rw [Nat.min_eq_right h, Nat.max_eq_left h, Nat.gcd_sub_self_right h, Nat.gcd_comm]
theorem shr_odd {y k m : Nat} (h : y = 2 ^ k * (2 * m + 1)) : (y : Int) / 2 ^ k = ((2 * m + 1 : Nat) : Int) := by
 rw [h, show ((2 : Int) ^ k) = ((2 ^ k : Nat) : Int) by rw [Int.natCast_pow]; rfl, Int.natCast_mul]
 exact Int.mul_ediv_cancel_left _ (by have := Nat.two_pow_pos k; omega)
theorem limbDivisor_any (x y : Nat) (w : World) (hx : x < 18446744073709551616) (hy : 0 < y) (hy1 : y < 18446744073709551616) (hT : TabAt 0 Lib.deBruijn64tab w) :
  Calls Tryz.prog 129 #[.int .u64 (x : Int), .int .u64 (y : Int)] w fun e w' => e = .returned (.int .u64 (Nat.gcd x y : Int)) ∧ w' = w := by
 by_cases hx0 : x = 0
 ·
  subst hx0
  go_enter Tryz.func129, Tryz.ntmps129
  go_wp2
  go_ret
  exact ⟨by rw [Nat.gcd_zero_left]; rfl, rfl⟩
 ·
  have ho : x ||| y < 18446744073709551616 := Nat.or_lt_two_pow (n := 64) hx hy1
  have hor := bits_or_u64_nat x y hx hy1
  obtain ⟨m, hm, ha64⟩ := ctz_spec hx0 hx
  have hco := ctz_or hx0 (by omega) hx hy1 ho
  have hgs := gcd_split (x := x) (y := y) (by omega) hy1 hm
  rw [← hco] at hgs
  have hc1 := trailing_any (x ||| y) w ho hT
  have hc2 := trailing_any x w hx hT
  have ho0 : x ||| y ≠ 0 := fun e => hx0 (Nat.or_eq_zero_iff.1 e).1
  obtain ⟨_, _, ht64⟩ := ctz_spec ho0 ho
  have hsx := shr_odd hm
  obtain ⟨o, hoe⟩ : ∃ o, x ||| y = o := ⟨_, rfl⟩
  obtain ⟨a, hae⟩ : ∃ a, Lib.ctz 64 x = a := ⟨_, rfl⟩
  rw [hoe] at hor hc1 hgs ht64
  rw [hae] at hc2 hsx ha64 hm
  obtain ⟨t, hte⟩ : ∃ t, Lib.ctz 64 o = t := ⟨_, rfl⟩
  rw [hte] at hc1 hgs ht64
  obtain ⟨xo, hxo⟩ : ∃ xo, 2 * m + 1 = xo := ⟨_, rfl⟩
  rw [hxo] at hgs hsx
  have hxo1 : xo % 2 = 1 := by omega
  have hxo2 : xo ≤ x := by
   rw [hm, hxo]; exact Nat.le_mul_of_pos_left _ (Nat.two_pow_pos a)
  have HG : Hid (Nat.gcd x y = Nat.gcd xo y * 2 ^ t ∧ Nat.gcd x y ≤ y) := ⟨hgs, Nat.gcd_le_right _ hy⟩
  have HC : Hid ((Calls Tryz.prog 116 #[.int .u64 (o : Int)] w fun e w' => e = .returned (.int .i64 (t : Int)) ∧ w' = w) ∧ (Calls Tryz.prog 116 #[.int .u64 (x : Int)] w fun e w' => e = .returned (.int .i64 (a : Int)) ∧ w' = w)) := ⟨hc1, hc2⟩
  have hx0' : ((x : Int) == 0) = false := by simp; omega
  have H1 : Hid True := trivial
  clear hc1 hc2 hgs hm hco hoe hae hte hxo ho ho0 hx0
  go_enter Tryz.func129, Tryz.ntmps129
  go_wp2_with (first
   | (go_at_call 116; have _t := H2; refine HC.out.2.mono ?_; rintro e w1 ⟨rfl, hw1⟩; replace hw1 := hw1.symm; subst hw1)
   | (go_at_call 116; have _t := H1; refine HC.out.1.mono ?_; rintro e w1 ⟨rfl, hw1⟩; replace hw1 := hw1.symm; subst hw1; clear H1; have H2 : Hid True := trivial))
  go_loopw [0, 1] (fun c0 c1 wr => ∃ X Y : Nat, c0 = .int .u64 (X : Int) ∧ c1 = .int .u64 (Y : Int) ∧ (X % 2 = 1 ∧ X < 18446744073709551616 ∧ Y < 18446744073709551616) ∧ Hid (Nat.gcd X Y = Nat.gcd xo y) ∧ wr = w) (fun c0 c1 _ => (intOf c0).toNat + (intOf c1).toNat)
  case atStart => exact ⟨xo, y, rfl, rfl, ⟨hxo1, by omega, hy1⟩, by show _ = _; rfl, rfl⟩
  case round =>
   obtain ⟨X, Y, rfl, rfl, ⟨hX, hX1, hY1⟩, HXY, hw⟩ := hrel
   replace hw := hw.symm
   subst hw
   by_cases hY : Y = 0
   ·
    subst hY
    have hR : Nat.gcd x y = X * 2 ^ t := by
     have h1 := HXY.out
     rw [Nat.gcd_zero_right] at h1
     rw [HG.out.1, ← h1]
    have hwr : IntKind.u64.wrap ((X : Int) * 2 ^ t) = ((Nat.gcd x y : Nat) : Int) := by
     rw [wrapU, show ((2 : Int) ^ t) = ((2 ^ t : Nat) : Int) by (rw [Int.natCast_pow]; rfl), ← Int.natCast_mul, ← hR]
     have := HG.out.2
     omega
    have HR : Hid (Nat.gcd x y = X * 2 ^ t) := hR
    clear hR
    go_wp2
    go_ret
    exact ⟨rfl, rfl⟩
   ·
    obtain ⟨m2, hm2, hk64⟩ := ctz_spec hY hY1
    have hc3 := trailing_any Y w hY1 hT
    have hsy := shr_odd hm2
    have hgr := gcd_round hX hm2
    obtain ⟨k, hke⟩ : ∃ k, Lib.ctz 64 Y = k := ⟨_, rfl⟩
    rw [hke] at hc3 hsy hk64 hm2
    obtain ⟨Z, hZ⟩ : ∃ Z, 2 * m2 + 1 = Z := ⟨_, rfl⟩
    rw [hZ] at hsy hgr hm2
    have hZ1 : Z % 2 = 1 := by omega
    have hZ2 : Z ≤ Y := by rw [hm2]; exact Nat.le_mul_of_pos_left _ (Nat.two_pow_pos k)
    have HC3 : Hid (Calls Tryz.prog 116 #[.int .u64 (Y : Int)] w fun e w' => e = .returned (.int .i64 (k : Int)) ∧ w' = w) := hc3
    have hY0 : ((Y : Int) != 0) = true := by simp; omega
    clear hc3 hm2 hke hZ
    by_cases hlt : Z < X
    ·
     have HN : Hid (Nat.gcd Z (X - Z) = Nat.gcd xo y) := by
      show _ = _
      rw [Nat.min_eq_right (by omega), Nat.max_eq_left (by omega)] at hgr
      rw [hgr]; exact HXY.out
     have hd0 : 0 ≤ (X : Int) - (Z : Int) := by omega
     clear hgr
     go_wp2_with (go_at_call 116; refine HC3.out.mono ?_; rintro e w1 ⟨rfl, hw1⟩; replace hw1 := hw1.symm; subst hw1)
     go_roundw
     case rel => exact ⟨Z, X - Z, rfl, by go_num, ⟨hZ1, by omega, by omega⟩, HN.out, by trivial⟩
     case measure => simp [intOf]; omega
    ·
     have HN : Hid (Nat.gcd X (Z - X) = Nat.gcd xo y) := by
      show _ = _
      rw [Nat.min_eq_left (by omega), Nat.max_eq_right (by omega)] at hgr
      rw [hgr]; exact HXY.out
     have hd0 : 0 ≤ (Z : Int) - (X : Int) := by omega
     have hng : ¬ (Z : Int) < (X : Int) := by omega
     clear hgr
     go_wp2_with (go_at_call 116; refine HC3.out.mono ?_; rintro e w1 ⟨rfl, hw1⟩; replace hw1 := hw1.symm; subst hw1)
     go_roundw
     case rel => exact ⟨X, Z - X, rfl, by go_num, ⟨hX, by omega, by omega⟩, HN.out, by trivial⟩
     case measure => simp [intOf]; omega
def Wide (w : World) (bo : Option Addr) (cb : Nat) : Prop := bo = none ∧ cb = 0 ∨ ∃ g off, bo = some ⟨g, off, none⟩ ∧ Room w g off cb
def TwoRoom (w w' : World) (e : Ending) (x y K : Nat) : Prop :=
 ∃ ao la ca bo lb cb, e = .returned (.tuple #[.slice ao la ca, .slice bo lb cb]) ∧ Own w.heap.size w' .u64 60 ao la ca (mag x) ∧ Own w.heap.size w' .u64 60 bo lb cb (mag y) ∧ Below w.heap.size w w' ∧ Wide w' bo cb ∧ cb ≤ K
theorem room_trim {w : World} {ao' : Option Addr} {g n k cap' : Nat} {L : List Int} {B : Nat} (h : RowAt w .u64 ao' k cap' (L.take k) ∧ Can (L.take k) ∧ (∀ q, val q (L.take k) = val q L) ∧ (ao' = some ⟨g, 0, none⟩ ∧ cap' = n ∨ ao' = none ∧ k = 0)) (ho : Own B w .u64 60 (some ⟨g, 0, none⟩) n n L) (hb : Blk w g .u64 60 L) (hW : Wd 18446744073709551616 L) (hl : L.length = n) : Wide w ao' cap' ∧ cap' ≤ n := by
 obtain ⟨hr, _, _, hor⟩ := h
 rcases hor with ⟨rfl, rfl⟩ | ⟨rfl, rfl⟩
 ·
  exact ⟨Or.inr ⟨g, 0, rfl, L, hb, hW, by omega⟩, Nat.le_refl _⟩
 ·
  exact ⟨Or.inl ⟨rfl, hr.hnil rfl⟩, by have := hr.hnil rfl; omega⟩
theorem divideLong_room (ao bo : Option Addr) (m ca n cb : Nat) (a b : Nat) (w : World) (hx : RowAt w .u64 ao (n + 1 + m) ca (mag a)) (hy : RowAt w .u64 bo (n + 2) cb (mag b)) (hl : n + 1 + m ≤ 4294967296) (hm : 1 ≤ m) :
  Calls Tryz.prog 132 #[.slice ao (n + 1 + m : Nat) ca, .slice bo (n + 2 : Nat) cb] w fun e w' => TwoRoom w w' e (a / b) (a % b) (n + 2) := by
 obtain ⟨i0, hi, hz0, hz1, hz2⟩ := info_parts info64
 obtain ⟨b', o', rfl, hb', hc'⟩ := hy.get (by omega)
 have p1 := hc' (n + 2 - 1) (by omega)
 rw [show n + 2 - 1 = n + 1 by omega] at p1
 have hyl := hy.hlen
 have hne : mag b ≠ [] := fun e => by rw [e] at hyl; simp at hyl
 obtain ⟨z, hz⟩ : ∃ z, dig (mag b) (n + 1) = z := ⟨_, rfl⟩
 have hzb := (mag_wd b).dig (by decide) (n + 1)
 have hz1' : z ≠ 0 := by
  have h1 := mag_can b
  rw [← hz]
  obtain ⟨r, t, ht⟩ := snoc_of hne
  rw [ht] at h1 hyl ⊢
  have : n + 1 = r.length := by simp at hyl; omega
  rw [this]; simp [dig]; exact can_snoc.1 h1
 rw [hz] at p1 hzb
 obtain ⟨s, hs, hs64, hs1, hs2⟩ := lead_ex z (by omega) hzb.2
 have hcon := leading_any z w hzb.1 (by omega)
 rw [hs] at hcon
 have HX : Hid (RowAt w .u64 ao (n + 1 + m) ca (mag a) ∧ RowAt w .u64 (some ⟨b', o', none⟩) (n + 2) cb (mag b)) := ⟨hx, hy⟩
 have HZ : Hid (dig (mag b) (n + 1) = z ∧ 9223372036854775808 ≤ z * 2 ^ s ∧ (z + 1) * 2 ^ s ≤ 18446744073709551616 ∧ mag b ≠ []) := ⟨hz, hs1, hs2, hne⟩
 have b1 : Hid (i0.bytes * (n + 1 + m + 1) ≤ 281474976710656) := by show _ ≤ _; rw [hz2]; omega
 have b2 : Hid (n + 1 + m + 1 ≤ maxLen) := by show _ ≤ _; unfold maxLen; omega
 have b3 : Hid (Wd 18446744073709551616 (List.replicate (n + 1 + m + 1) 0)) := wd_zeros (by decide) _
 have b4 : Hid (i0.bytes * (n + 2) ≤ 281474976710656) := by show _ ≤ _; rw [hz2]; omega
 have b5 : Hid (n + 2 ≤ maxLen) := by show _ ≤ _; unfold maxLen; omega
 have b6 : Hid (Wd 18446744073709551616 (List.replicate (n + 2) 0)) := wd_zeros (by decide) _
 have b7 : Hid (i0.bytes * m ≤ 281474976710656) := by show _ ≤ _; rw [hz2]; omega
 have b8 : Hid (m ≤ maxLen) := by show _ ≤ _; unfold maxLen; omega
 have b9 : Hid (Wd 18446744073709551616 (List.replicate m 0)) := wd_zeros (by decide) _
 clear hx hy hc' hyl hne hz hs hs1 hs2 hz1' hzb
 go_enter Tryz.func132, Tryz.ntmps132
 go_wp2_with (first
  | (go_at_call 135; refine hcon.mono ?_; rintro e w0 ⟨rfl, hw0⟩; replace hw0 := hw0.symm; subst hw0)
  | (at_make; refine wpList_make_full _ rfl (.tmp 22) (.tmp 22) 25 rfl 0 60 i0 (.int .u64 0) 1 Tryz.underlying25 hi hz0 hz1 .i64 .i64 _ _ (n + 1 + m + 1) rfl rfl (by omega) (by omega) b1.out b2.out (Nat.zero_le _) ?_; intro w1 hown1 hgrow1)
  | (go_at_call 143; refine (upBits_any w.heap.size 0 (n + 1 + m + 1) (n + 1 + m + 1) ao (n + 1 + m) ca (List.replicate (n + 1 + m + 1) 0) (mag a) s w1 hs64 (made_blk hown1) b3.out (by simp) (Nat.le_refl _) (by omega) (HX.out.1.later (grown_below hgrow1)) (mag_wd _) (by omega) (apart_new HX.out.1 (Nat.le_refl _))).mono ?_; rintro e w2 ⟨c1, L1, rfl, hb1, hu1, ht1⟩; have HU : Hid (UpSt 18446744073709551616 (List.replicate (n + 1 + m + 1) 0) (mag a) (2 ^ s) 0 (n + 1 + m) c1 L1 ∧ Blk w2 w.heap.size .u64 60 L1 ∧ Below w.heap.size w w2) := ⟨hu1, hb1, (grown_below hgrow1).trans (ht1.below (Nat.le_refl _))⟩; have hcz := hb1.cell (j := n + 1 + m) (by have := hu1.len; simp at this; omega); have hfz := hb1.frozen (n + 1 + m); have hgs : w.heap.size < w2.heap.size := hb1.lt; clear hb1 hu1 ht1 hown1 hgrow1)
  | (at_make; refine wpList_make_full _ rfl (.tmp 33) (.tmp 33) 25 rfl 0 60 i0 (.int .u64 0) 1 Tryz.underlying25 hi hz0 hz1 .i64 .i64 _ _ (n + 2) rfl rfl (by omega) (by omega) b4.out b5.out (Nat.zero_le _) ?_; intro w3 hown3 hgrow3; have HA := divlong_a HU.out.2.1 HU.out.2.2 hown3 hgrow3; clear hown3 hgrow3; try simp only [World.size_setCell] at HA)
  | (go_at_call 143; go_loud (refine (upBits_any w2.heap.size 0 (n + 2) (n + 2) (some ⟨b', o', none⟩) (n + 2) cb (List.replicate (n + 2) 0) (mag b) s w3 hs64 HA.out.2.1 b6.out (by simp) (Nat.le_refl _) (by omega) (HX.out.2.later HA.out.2.2) (mag_wd _) (Nat.le_refl _) (apart_new HX.out.2 (by omega))).mono ?_; rintro e w4 ⟨c2, L2, rfl, hb2, hu2, ht2⟩; have HB : Hid (UpSt 18446744073709551616 (List.replicate (n + 2) 0) (mag b) (2 ^ s) 0 (n + 2) c2 L2 ∧ Blk w4 w2.heap.size .u64 60 L2 ∧ Blk w4 w.heap.size .u64 60 (L1.set (n + 1 + m) c1) ∧ Below w.heap.size w w4 ∧ w2.heap.size < w4.heap.size) := ⟨hu2, hb2, divlong_b HA.out.1 ht2 (by omega), HA.out.2.2.trans (ht2.below (by omega)), hb2.lt⟩; clear hb2 hu2 ht2))
  | (at_make; refine wpList_make_full _ rfl (.tmp 44) (.tmp 44) 26 rfl 0 60 i0 (.int .u64 0) 1 Tryz.underlying26 hi hz0 hz1 .i64 .i64 _ _ m rfl rfl (by omega) (by omega) b7.out b8.out (Nat.zero_le _) ?_; intro w5 hown5 hgrow5; have HC : Hid (Blk w5 w.heap.size .u64 60 (L1.set (n + 1 + m) c1) ∧ Blk w5 w2.heap.size .u64 60 L2 ∧ Blk w5 w4.heap.size .u64 60 (List.replicate m 0) ∧ Below w.heap.size w w5) := ⟨HB.out.2.2.1.all (grown_below hgrow5), HB.out.2.1.all (grown_below hgrow5), made_blk hown5, HB.out.2.2.2.1.trans (below_less (grown_below hgrow5) (by have := HB.out.2.2.2.2; omega))⟩; have hg24 := HB.out.2.2.2.2; clear hown5 hgrow5))
 have HU1 := HU.out.1
 have HB1 := HB.out.1
 have hlb : n + 1 + 1 = (mag b).length := HX.out.2.hlen
 have hla : n + 1 + m = (mag a).length := HX.out.1.hlen
 have hP : (0 : Int) < 2 ^ s := Int.pow_pos (by decide)
 have hPq : (2 : Int) ^ s < 18446744073709551616 := by
  obtain ⟨P, R, _, _, _, hR0, hPR, hPi, _⟩ := pow_pair hs64
  rw [hPi]
  have h1 : z + 1 ≤ 1 ∨ 1 ≤ z := by omega
  have h2 : 9223372036854775808 ≤ z * P := hPi ▸ HZ.out.2.1
  have h3 : (z + 1) * P ≤ 18446744073709551616 := hPi ▸ HZ.out.2.2.1
  rw [Int.add_mul] at h3
  omega
 have hlL1 : L1.length = n + 1 + m + 1 := by have := HU1.len; simpa using this
 have hlL2 : L2.length = n + 2 := by have := HB1.len; simpa using this
 have hnt := norm_top hlb (mag_wd b) HZ.out.1 HB1.wd hP HZ.out.2.1 HZ.out.2.2.1 HB1.c0 (by have := HB1.eq; rw [List.take_of_length_le (by omega)] at this; exact this)
 have hM : val 18446744073709551616 L2 = 2 ^ s * (b : Int) := by
  have := HB1.eq
  rw [hnt.1, List.take_of_length_le (by omega), mag_val] at this
  rw [← V_all _ (hlL2.symm)]; omega
 have hX : V 18446744073709551616 (L1.set (n + 1 + m) c1) 0 (m + (n + 2)) = 2 ^ s * (a : Int) := by
  have e := HU1.eq
  rw [List.take_of_length_le (by omega), mag_val] at e
  rw [show m + (n + 2) = (n + 1 + m) + 1 by omega, V_succ, Nat.zero_add, dig_set _ (by omega), if_pos rfl, ← e, Int.mul_comm c1]
  congr 1
  exact V_congr fun j hj => by rw [dig_set _ (by omega), if_neg (by omega)]
 have hroom := div_room (P := 2 ^ s) (mag_wd a) (mag_wd b) (mag_can b) HZ.out.2.2.2 (m := m) (by omega) hP
 rw [mag_val, mag_val, ← hM] at hroom
 have HD0 : Hid (DivSt 18446744073709551616 (val 18446744073709551616 L2) (2 ^ s * (a : Int)) (n + 2) m m (n + 1 + m + 1) (L1.set (n + 1 + m) c1) (List.replicate m 0)) := ⟨by simp [hlL1], by simp, HU1.wd.set _ ⟨HU1.c0, by have := HU1.c1; omega⟩, b9.out, by rw [Nat.sub_self, V_zero]; rw [hX]; simp, by rw [hX]; exact hroom⟩
 have hMlt : val 18446744073709551616 L2 < 18446744073709551616 ^ (n + 2) := by have := val_lt (q := 18446744073709551616) (by decide) HB1.wd; rw [hlL2] at this; exact this
 have HT : Hid (9223372036854775808 ≤ dig L2 (n + 1) ∧ val 18446744073709551616 L2 = 2 ^ s * (b : Int) ∧ val 18446744073709551616 L2 < 18446744073709551616 ^ (n + 2) ∧ Wd 18446744073709551616 L2 ∧ L2.length = n + 2 ∧ (0 : Int) < 2 ^ s) := ⟨hnt.2, hM, hMlt, HB1.wd, hlL2, hP⟩
 obtain ⟨g1, hg1⟩ : ∃ g1, w.heap.size = g1 := ⟨_, rfl⟩
 obtain ⟨g2, hg2⟩ : ∃ g2, w2.heap.size = g2 := ⟨_, rfl⟩
 obtain ⟨g3, hg3⟩ : ∃ g3, w4.heap.size = g3 := ⟨_, rfl⟩
 rw [hg1, hg2, hg3] at HC
 rw [hg1, hg2] at hgs
 rw [hg2, hg3] at hg24
 have HG : Hid (w.heap.size = g1) := hg1
 simp only [hg1, hg2, hg3]
 clear hnt hM hX hroom hMlt hP hPq hlL1 hlL2 HU1 HB1 hlb hla HU HB HA hg1 hg2 hg3 hcz hfz hcon hb' p1
 go_loopw [10] (fun i wr => ∃ (k : Nat) (Lu Lq : List Int), k ≤ m ∧ i = .int .i64 ((k : Int) - 1) ∧ DivSt 18446744073709551616 (val 18446744073709551616 L2) (2 ^ s * (a : Int)) (n + 2) m k (n + 1 + m + 1) Lu Lq ∧ Blk wr g1 .u64 60 Lu ∧ Blk wr g2 .u64 60 L2 ∧ Blk wr g3 .u64 60 Lq ∧ Below g1 w wr) (fun i _ => (intOf i + 1).toNat)
 case atStart => exact ⟨m, _, _, Nat.le_refl _, by go_num, HD0.out, HC.out.1, HC.out.2.1, HC.out.2.2.1, HC.out.2.2.2⟩
 case round =>
  obtain ⟨k, Lu, Lq, hk, rfl, hst, hbu, hbv, hbq, hbw⟩ := hrel
  have HS : Hid (DivSt 18446744073709551616 (val 18446744073709551616 L2) (2 ^ s * (a : Int)) (n + 2) m k (n + 1 + m + 1) Lu Lq ∧ Blk wr g1 .u64 60 Lu ∧ Blk wr g2 .u64 60 L2 ∧ Blk wr g3 .u64 60 Lq ∧ Below g1 w wr) := ⟨hst, hbu, hbv, hbq, hbw⟩
  clear hst hbu hbv hbq hbw
  rcases k with _ | k
  ·
   have hwr : g3 < wr.heap.size := HS.out.2.2.2.1.lt
   go_wp2_with (first
    | (at_make; refine wpList_make_full _ rfl (.tmp 67) (.tmp 67) 26 rfl 0 60 i0 (.int .u64 0) 1 Tryz.underlying26 hi hz0 hz1 .i64 .i64 _ _ (n + 2) rfl rfl (by omega) (by omega) b4.out b5.out (Nat.zero_le _) ?_; intro w7 hown7 hgrow7; have HR : Hid (Blk w7 g1 .u64 60 Lu ∧ Blk w7 g3 .u64 60 Lq ∧ Blk w7 wr.heap.size .u64 60 (List.replicate (n + 2) 0) ∧ Below g1 w w7) := ⟨HS.out.2.1.all (grown_below hgrow7), HS.out.2.2.2.1.all (grown_below hgrow7), made_blk hown7, HS.out.2.2.2.2.trans (below_less (grown_below hgrow7) (by omega))⟩; clear hown7 hgrow7)
    | (go_at_call 145; refine (downBits_any wr.heap.size 0 (n + 2) (n + 2) (some ⟨g1, 0, none⟩) (n + 1 + m + 1) (List.replicate (n + 2) 0) (Lu.take (n + 2)) s w7 hs64 HR.out.2.2.1 b6.out (by simp) (Nat.le_refl _) (by omega) ((Own.whole (B := 0) HR.out.1 (Nat.zero_le _) HS.out.1.lu.symm).row.take (by omega)) (HS.out.1.wu.take _) (fun b o e t ht k' hk' e' => (by cases e; omega))).mono ?_; rintro e w8 ⟨r, L3, rfl, hb8, hq8, ht8⟩; have HE : Hid (Blk w8 g3 .u64 60 Lq ∧ Blk w8 wr.heap.size .u64 60 L3 ∧ L3.length = n + 2 ∧ Wd 18446744073709551616 L3 ∧ Below g1 w w8 ∧ (val 18446744073709551616 Lq = ((a / b : Nat) : Int) ∧ val 18446744073709551616 L3 = ((a % b : Nat) : Int))) := ⟨divlong_b HR.out.2.1 ht8 (by omega), hb8, (by rw [hq8.len]; simp), hq8.wd, HR.out.2.2.2.trans (ht8.below (by omega)), divlong_end HS.out.1 HT.out.2.1 HT.out.2.2.2.2.2 (by simp) hq8⟩; clear hb8 hq8 ht8)
    | (go_at_call 123; have _t := hrest9; refine (trim_any (some ⟨wr.heap.size, 0, none⟩) (n + 2) (n + 2) L3 w8 (Own.whole (B := 0) HE.out.2.1 (Nat.zero_le _) HE.out.2.2.1.symm).row (by omega)).mono ?_; rintro e w10 ⟨hT10, hw10⟩; replace hw10 := hw10.symm; subst hw10; obtain ⟨ao10, n10, cap10, hn10, rfl, hrest10⟩ := hT10)
    | (go_at_call 123; refine (trim_any (some ⟨g3, 0, none⟩) m m Lq w8 (Own.whole (B := 0) HE.out.1 (Nat.zero_le _) HS.out.1.lq.symm).row (by omega)).mono ?_; rintro e w9 ⟨hT9, hw9⟩; replace hw9 := hw9.symm; subst hw9; obtain ⟨ao9, n9, cap9, hn9, rfl, hrest9⟩ := hT9))
   go_ret2
   refine ⟨ao9, n9, cap9, ao10, n10, cap10, rfl, trim_own hn9 hrest9 (Own.whole HE.out.1 (by rw [HG.out]; omega) HS.out.1.lq.symm) HS.out.1.wq HE.out.2.2.2.2.2.1, trim_own hn10 hrest10 (Own.whole HE.out.2.1 (by rw [HG.out]; omega) HE.out.2.2.1.symm) HE.out.2.2.2.1 HE.out.2.2.2.2.2.2, by rw [HG.out]; exact HE.out.2.2.2.2.1, ?_⟩
   ·
    exact room_trim hrest10 (Own.whole (B := w.heap.size) HE.out.2.1 (by rw [HG.out]; omega) HE.out.2.2.1.symm) HE.out.2.1 HE.out.2.2.2.1 HE.out.2.2.1
  ·
   have hkk : ((k + 1 : Nat) : Int) - 1 = (k : Int) := by omega
   rw [hkk]
   have hap : Hid (Apart (some ⟨g2, 0, none⟩) (n + 2) g1 k (n + 2 + 1)) := fun b o e t ht k' hk' e' => by cases e; omega
   have hro : Hid (RowAt wr .u64 (some ⟨g2, 0, none⟩) (n + 2) (n + 2) L2) := (Own.whole (B := 0) HS.out.2.2.1 (Nat.zero_le _) HT.out.2.2.2.2.1.symm).row
   clear hkk
   go_wp2_with (go_at_call 144; refine (takeOut_len g1 k (n + 1 + m + 1 - k) (k + (n + 2) + 1 - k) (some ⟨g2, 0, none⟩) n (n + 2) (by omega) Lu L2 wr HS.out.2.1 HS.out.1.wu (by have := HS.out.1.lu; omega) (by omega) (by omega) hro.out HT.out.2.2.2.1 hap.out HT.out.1 (HS.out.1.pre (by decide))).mono ?_; rintro e w6 ⟨d, L', rfl, hb6, hl6, hw6, ho6, hd6, he6, hlt6, ht6⟩; have HQ : Hid (DivSt 18446744073709551616 (val 18446744073709551616 L2) (2 ^ s * (a : Int)) (n + 2) m k (n + 1 + m + 1) L' (Lq.set k d) ∧ Blk w6 g1 .u64 60 L' ∧ Blk w6 g2 .u64 60 L2 ∧ Blk w6 g3 .u64 60 Lq ∧ Below g1 w w6) := ⟨HS.out.1.step (by decide) (by omega) HT.out.2.2.1 hl6 hw6 ho6 hd6 he6 hlt6, hb6, divlong_b HS.out.2.2.1 ht6 (by omega), divlong_b HS.out.2.2.2.1 ht6 (by omega), HS.out.2.2.2.2.trans (ht6.below (Nat.le_refl _))⟩; have hcz := HQ.out.2.2.2.1.cell (j := k) (by have := HS.out.1.lq; omega); have hfz := HQ.out.2.2.2.1.frozen k; have hgs6 : g3 < w6.heap.size := HQ.out.2.2.2.1.lt; clear hb6 hl6 hw6 ho6 hd6 he6 hlt6 ht6)
   go_roundw
   case rel => exact ⟨k, L', Lq.set k d, Nat.le_of_succ_le hk, rfl, HQ.out.1, HQ.out.2.1.other (by show g1 ≠ g3; omega) _, HQ.out.2.2.1.other (by show g2 ≠ g3; omega) _, HQ.out.2.2.2.1.set _ _, HQ.out.2.2.2.2.trans (((Touch.refl g3 w6).set _ _).below (by omega))⟩
   case measure => simp [intOf]
theorem divide_room (ao bo : Option Addr) (la ca lb cb : Nat) (a b : Nat) (w : World) (hx : RowAt w .u64 ao la ca (mag a)) (hy : RowAt w .u64 bo lb cb (mag b)) (hl : la ≤ 4294967296) (hl' : lb ≤ 4294967296) (hlb : 2 ≤ lb) (hle : b ≤ a) :
  Calls Tryz.prog 112 #[.slice ao la ca, .slice bo lb cb] w fun e w' => TwoRoom w w' e (a / b) (a % b) lb := by
 obtain ⟨c, hc⟩ : ∃ c, cmpI (a : Int) (b : Int) = c := ⟨_, rfl⟩
 have hcmp := compare_at ao bo la ca lb cb a b w hx hy hl hl' c hc
 have hc0 : ¬ c < 0 := by
  rw [← hc]; unfold cmpI; rw [if_neg (by omega)]; split <;> decide
 have hlen : lb ≤ la := by
  have := mag_len_mono (a := a) (b := b) hle
  rw [← hx.hlen, ← hy.hlen] at this; exact this
 have HX : Hid (RowAt w .u64 ao la ca (mag a) ∧ RowAt w .u64 bo lb cb (mag b)) := ⟨hx, hy⟩
 clear hc
 have h1' : ((lb : Int) == 1) = false := by simp; omega
 obtain ⟨n, rfl⟩ : ∃ n, lb = n + 2 := ⟨lb - 2, by omega⟩
 obtain ⟨m, rfl⟩ : ∃ m, la = n + 1 + m := ⟨la - (n + 1), by omega⟩
 clear hx hy
 go_enter Tryz.func112, Tryz.ntmps112
 go_wp2_with (first
  | (go_at_call 115; refine hcmp.mono ?_; rintro e w1 ⟨rfl, hb1⟩)
  | (go_at_call 132; refine (divideLong_room ao bo m ca n cb a b w1 (HX.out.1.later hb1) (HX.out.2.later hb1) hl (by omega)).mono ?_; rintro e w2 ⟨ao4, n4, cap4, ao5, n5, cap5, rfl, ho4, ho5, hb2, hw5⟩))
 go_ret2
 exact ⟨ao4, n4, cap4, ao5, n5, cap5, rfl, ho4.mono hb1.size, ho5.mono hb1.size, hb1.trans (below_less hb2 hb1.size), hw5⟩
structure ShAt (w wr : World) (X Y : Nat) (ga oa la ca : Nat) (bo : Option Addr) (lb cb gc oc cc gd od cd A B : Nat) : Prop where
 rowa : RowAt wr .u64 (some ⟨ga, oa, none⟩) la ca (mag A)
 rooma : Room wr ga oa ca
 rowb : RowAt wr .u64 bo lb cb (mag B)
 wideb : Wide wr bo cb
 roomc : Room wr gc oc cc
 roomd : Room wr gd od cd
 lc : la ≤ cc
 ld : la ≤ cd
 caps : ca ≤ 4294967296 ∧ cb ≤ 4294967296 ∧ cc ≤ 4294967296 ∧ cd ≤ 4294967296
 apart : ga ≠ gc ∧ ga ≠ gd ∧ gc ≠ gd
 apartb : ∀ g off, bo = some ⟨g, off, none⟩ → g ≠ ga ∧ g ≠ gc ∧ g ≠ gd ∧ w.heap.size ≤ g
 new : w.heap.size ≤ ga ∧ w.heap.size ≤ gc ∧ w.heap.size ≤ gd
 gcd : Nat.gcd A B = Nat.gcd X Y
 le : B ≤ A
 pos : 0 < A
 below : Below w.heap.size w wr
def Shortened (w w' : World) (e : Ending) (X Y : Nat) : Prop := ∃ A B ao la ca bo lb cb, e = .returned (.tuple #[.slice ao la ca, .slice bo lb cb]) ∧ RowAt w' .u64 ao la ca (mag A) ∧ RowAt w' .u64 bo lb cb (mag B) ∧ lb ≤ 1 ∧ la ≤ 4294967296 ∧ Nat.gcd A B = Nat.gcd X Y ∧ Below w.heap.size w w'
theorem row_wide {w : World} {g off l c : Nat} (h : Wide w (some ⟨g, off, none⟩) c) : Room w g off c := by
 rcases h with ⟨e, _⟩ | ⟨g', off', e, h⟩
 ·
  cases e
 ·
  cases e; exact h
theorem ShAt.divided {w wr wd wd' : World} {X Y ga oa la ca gb ob lb cb gc oc cc gd od cd A B : Nat} (h : ShAt w wr X Y ga oa la ca (some ⟨gb, ob, none⟩) lb cb gc oc cc gd od cd A B) (hlba : lb ≤ la) (hB : 0 < B) (h1 : Below wr.heap.size wr wd) {ao : Option Addr} {l c : Nat}
  (ho : Own wd.heap.size wd' .u64 60 ao l c (mag (A % B))) (h2 : Below wd.heap.size wd wd') (hw : Wide wd' ao c) (hc : c ≤ lb) (hl : lb ≤ 4294967296) : ShAt w wd' X Y gb ob lb cb ao l c gc oc cc gd od cd B (A % B) := by
 have h3 := bnext h1 h2
 have hC : Chg (Fr 0 0 0) wr wd' := Chg.below h3
 have hmod := Nat.mod_lt A hB
 obtain ⟨n1, n2, n3⟩ := h.new
 obtain ⟨a1, a2, a3⟩ := h.apart
 obtain ⟨p1, p2, p3, p4⟩ := h.apartb gb ob rfl
 have l1 := h.rooma.lt
 have l2 := (row_wide (l := lb) h.wideb).lt
 have l3 := h.roomc.lt
 have l4 := h.roomd.lt
 have hs := h1.size
 refine ⟨h.rowb.later h3, (row_wide (l := lb) h.wideb).later hC, ho.row, hw, h.roomc.later hC, h.roomd.later hC, Nat.le_trans hlba h.lc, Nat.le_trans hlba h.ld, ⟨h.caps.2.1, by omega, h.caps.2.2.1, h.caps.2.2.2⟩, ⟨p2, p3, a3⟩, ?_, ⟨p4, n2, n3⟩, ?_, by omega, hB, bnext h.below h3⟩
 ·
  intro g off e
  rcases ho with ⟨e2, _⟩ | ⟨g', off', cur, e2, hg', _⟩
  ·
   rw [e2] at e; cases e
  ·
   rw [e2] at e; cases e
   have := h.below.size
   exact ⟨by omega, by omega, by omega, by omega⟩
 ·
  rw [Nat.gcd_comm B, ← Nat.gcd_rec, Nat.gcd_comm]; exact h.gcd
theorem RowAt.stays {F : Nat → Nat → Prop} {w w' : World} {b o len cap : Nat} {zs : List Int} (h : RowAt w .u64 (some ⟨b, o, none⟩) len cap zs) (hc : Chg F w w') (hF : ∀ t, t < len → ¬ F b (o + t)) : RowAt w' .u64 (some ⟨b, o, none⟩) len cap zs := by
 refine ⟨h.hlen, h.hcap, h.hnil, ?_⟩
 by_cases hp : 0 < len
 ·
  obtain ⟨k1, k2⟩ := RowV.cells h hp
  refine Or.inr ⟨b, o, rfl, Nat.lt_of_lt_of_le k1 hc.size, fun t ht => ?_⟩
  rw [hc.cell b (o + t) k1 (hF t ht)]; exact k2 t ht
 ·
  exact Or.inl (by omega)
theorem trim_num {w : World} {g o n cap N : Nat} {zs : List Int} {e : Ending} (hT : Trimmed w .u64 (some ⟨g, o, none⟩) n cap zs e) (hW : Wd 18446744073709551616 zs) (hv : val 18446744073709551616 zs = (N : Int)) :
  ∃ ao l c, e = .returned (.slice ao l c) ∧ RowAt w .u64 ao l c (mag N) ∧ (ao = some ⟨g, o, none⟩ ∧ c = cap ∨ ao = none ∧ l = 0 ∧ c = 0) := by
 obtain ⟨ao', k, cap', hk, he, hr, hc, hval, hor⟩ := hT
 have hm : mag N = zs.take k := mag_of (hW.take k) hc (by rw [hval, hv])
 refine ⟨ao', k, cap', he, by rw [hm]; exact hr, ?_⟩
 rcases hor with h | ⟨h1, h2⟩
 ·
  exact Or.inl h
 ·
  exact Or.inr ⟨h1, h2, hr.hnil h1⟩
theorem seen_nats {A B : Nat} {u0 v0 u1 v1 : Int} {odd : Bool} (h : Seen A B u0 v0 u1 v1 odd) (hv : v0 ≠ 0) (hA : 0 < A) :
  ∃ A2 B2 : Nat, ((A2 : Int) = (if odd then v0 * B - u0 * A else u0 * A - v0 * B) ∧ (B2 : Int) = (if odd then u1 * A - v1 * B else v1 * B - u1 * A)) ∧ Nat.gcd A2 B2 = Nat.gcd A B ∧ B2 ≤ A2 ∧ A2 ≤ B ∧ A2 + B2 ≤ A ∧ 0 < A2 := by
 obtain ⟨s, hs, hd, h0, h1, h2, h3⟩ := h hv
 have key : ∃ A2 B2 : Nat, ((A2 : Int) = (if odd then v0 * B - u0 * A else u0 * A - v0 * B) ∧ (B2 : Int) = (if odd then u1 * A - v1 * B else v1 * B - u1 * A)) ∧ Nat.gcd A2 B2 = Nat.gcd A B ∧ B2 ≤ A2 ∧ A2 ≤ B ∧ A2 + B2 ≤ A := by
  cases odd
  ·
   simp only [Bool.false_eq_true, if_false] at hs ⊢
   subst hs
   have e1 : -1 * (u1 * (A : Int) - v1 * B) = v1 * B - u1 * A := by omega
   have e2 : -1 * (v0 * (B : Int) - u0 * A) = u0 * A - v0 * B := by omega
   rw [e1] at h0 h1 h3
   rw [e2] at h1 h2 h3
   obtain ⟨B2, hB2⟩ := Int.eq_ofNat_of_zero_le h0
   obtain ⟨A2, hA2⟩ := Int.eq_ofNat_of_zero_le (Int.le_trans h0 h1)
   have hg := gcd_comb (a := (A : Int)) (b := (B : Int)) (p := u0) (q := v0) (r := u1) (s := v1) (e := 1) (Or.inl rfl) (by rw [Int.mul_comm v0 u1]; omega)
   rw [hA2, hB2] at hg h1 h3
   rw [hA2] at h2
   exact ⟨A2, B2, ⟨hA2.symm, hB2.symm⟩, hg, by omega, by omega, by omega⟩
  ·
   simp only [if_true] at hs ⊢
   subst hs
   rw [Int.one_mul] at h0 h1 h2 h3
   rw [Int.one_mul] at h1 h3
   obtain ⟨B2, hB2⟩ := Int.eq_ofNat_of_zero_le h0
   obtain ⟨A2, hA2⟩ := Int.eq_ofNat_of_zero_le (Int.le_trans h0 h1)
   have hg := gcd_comb (a := (A : Int)) (b := (B : Int)) (p := u0) (q := v0) (r := u1) (s := v1) (e := -1) (Or.inr rfl) (by rw [Int.mul_comm v0 u1]; omega)
   have e1 : u0 * (A : Int) - v0 * B = -(A2 : Int) := by have := hA2; omega
   have e2 : v1 * (B : Int) - u1 * A = -(B2 : Int) := by have := hB2; omega
   rw [e1, e2, Int.neg_gcd, Int.gcd_neg] at hg
   rw [hA2, hB2] at h1 h3
   rw [hA2] at h2
   exact ⟨A2, B2, ⟨hA2.symm, hB2.symm⟩, hg, by omega, by omega, by omega⟩
 obtain ⟨A2, B2, k1, k2, k3, k4, k5⟩ := key
 refine ⟨A2, B2, k1, k2, k3, k4, k5, ?_⟩
 rcases Nat.eq_zero_or_pos A2 with e | e
 ·
  exfalso
  have : B2 = 0 := by omega
  rw [e, this] at k2
  have := Nat.gcd_pos_of_pos_left B hA
  simp at k2; omega
 ·
  exact e
theorem below_drewN {B : Nat} {a b : World} (h : Below B a b) (k : Nat) : Below B a (b.drewN k) := ⟨h.os, h.tape, h.output, h.size, h.block⟩
theorem RowV.drewN {w : World} {b o len cap : Nat} {v : Int} (h : RowV w (some ⟨b, o, none⟩) len cap v) (k : Nat) : RowV (w.drewN k) (some ⟨b, o, none⟩) len cap v :=
 h.later (F := Fr 0 0 0) ((Chg.refl _ _).drewN k) fun t ht hF => by have := hF.2; omega
theorem ShAt.combined {w wr wf w3 w4 : World} {X Y ga oa la ca gb ob lb cb gc oc cc gd od cd A B A2 B2 : Nat} (h : ShAt w wr X Y ga oa la ca (some ⟨gb, ob, none⟩) lb cb gc oc cc gd od cd A B) (h1 : Below wr.heap.size wr wf) (hC1 : Chg (Fr gc oc la) wf w3) (hC2 : Chg (Fr gd od la) w3 w4) {ao bo : Option Addr} {l1 c1 l2 c2 : Nat}
  (ra : RowAt w4 .u64 ao l1 c1 (mag A2)) (ha : ao = some ⟨gc, oc, none⟩ ∧ c1 = cc) (rb : RowAt w4 .u64 bo l2 c2 (mag B2)) (hb : bo = some ⟨gd, od, none⟩ ∧ c2 = cd ∨ bo = none ∧ l2 = 0 ∧ c2 = 0) (hlba : lb ≤ la) (hg : Nat.gcd A2 B2 = Nat.gcd A B) (hle : B2 ≤ A2) (hAB : A2 ≤ B) (hpos : 0 < A2) : ShAt w w4 X Y gc oc l1 cc bo l2 c2 ga oa ca gb ob cb A2 B2 := by
 obtain ⟨rfl, rfl⟩ := ha
 obtain ⟨n1, n2, n3⟩ := h.new
 obtain ⟨a1, a2, a3⟩ := h.apart
 obtain ⟨p1, p2, p3, p4⟩ := h.apartb gb ob rfl
 have hC0 : Chg (Fr 0 0 0) wr wf := Chg.below h1
 have hl1 : l1 ≤ lb := by
  have := mag_len_mono (a := B) (b := A2) hAB
  rw [← ra.hlen, ← h.rowb.hlen] at this; exact this
 have q1 := h.rowa.hcap
 have q2 := h.rowb.hcap
 have hB : Below w.heap.size w w4 := by
  have k1 : Below w.heap.size wf w3 := hC1.toBelow (Nat.le_trans h.below.size h1.size) fun g j hg' hF => by have := hF.1; omega
  have k2 : Below w.heap.size w3 w4 := hC2.toBelow (Nat.le_trans (Nat.le_trans h.below.size h1.size) hC1.size) fun g j hg' hF => by have := hF.1; omega
  exact ((bnext h.below h1).trans k1).trans k2
 refine ⟨ra, ((h.roomc.later hC0).later hC1).later hC2, rb, ?_, ((h.rooma.later hC0).later hC1).later hC2, (((row_wide (l := lb) h.wideb).later hC0).later hC1).later hC2, by omega, by omega, ⟨h.caps.2.2.1, ?_, h.caps.1, h.caps.2.1⟩, ⟨Ne.symm a1, Ne.symm p2, Ne.symm p1⟩, ?_, ⟨n2, n1, p4⟩, hg.trans h.gcd, hle, hpos, hB⟩
 ·
  rcases hb with ⟨e1, e2⟩ | ⟨e1, _, e2⟩
  ·
   exact Or.inr ⟨gd, od, e1, by rw [e2]; exact ((h.roomd.later hC0).later hC1).later hC2⟩
  ·
   exact Or.inl ⟨e1, e2⟩
 ·
  rcases hb with ⟨_, e2⟩ | ⟨_, _, e2⟩
  ·
   rw [e2]; exact h.caps.2.2.2
  ·
   omega
 ·
  intro g off e
  rcases hb with ⟨e1, _⟩ | ⟨e1, _⟩
  ·
   rw [e1] at e; cases e; exact ⟨Ne.symm a3, Ne.symm a2, Ne.symm p3, n3⟩
  ·
   rw [e1] at e; cases e
theorem shorten_any (ao bo : Option Addr) (la ca lb cb X Y : Nat) (w : World) (hx : RowAt w .u64 ao la ca (mag X)) (hy : RowAt w .u64 bo lb cb (mag Y)) (hl : la ≤ 4294967296) (hl' : lb ≤ 4294967296) (hlb : 2 ≤ lb) (hle : Y ≤ X) :
  Calls Tryz.prog 127 #[.slice ao la ca, .slice bo lb cb] w fun e w' => Shortened w w' e X Y := by
 obtain ⟨i0, hi, hz0, hz1, hz2⟩ := info_parts info64
 have hlen : lb ≤ la := by
  have := mag_len_mono (a := X) (b := Y) hle
  rw [← hx.hlen, ← hy.hlen] at this; exact this
 have hXp : Hid (0 < X) := by
  show _ < _
  exact mag_len_pos.1 (by rw [← hx.hlen]; omega)
 have HX : Hid (RowAt w .u64 ao la ca (mag X) ∧ RowAt w .u64 bo lb cb (mag Y) ∧ Y ≤ X) := ⟨hx, hy, hle⟩
 have b1 : Hid (i0.bytes * la ≤ 281474976710656) := by show _ ≤ _; rw [hz2]; omega
 have b2 : Hid (la ≤ maxLen) := by show _ ≤ _; unfold maxLen; omega
 clear hx hy hle
 go_enter Tryz.func127, Tryz.ntmps127
 go_wp2_with (first
  | (go_at_call 128; have _t := HA1; refine (clone_pos bo lb cb (mag Y) w1 (HX.out.2.1.later HA1.out.2) (by omega) hl').mono ?_; rintro e w2 ⟨rfl, hb2, hw2⟩; have HA2 : Hid (Blk w2 w.heap.size .u64 60 (mag X) ∧ Blk w2 w1.heap.size .u64 60 (mag Y) ∧ Below w.heap.size w w2 ∧ w.heap.size < w1.heap.size ∧ w1.heap.size < w2.heap.size) := ⟨HA1.out.1.all hw2, hb2, bnext HA1.out.2 hw2, HA1.out.1.lt, hb2.lt⟩; clear hb2 hw2)
  | (go_at_call 128; refine (clone_pos ao la ca (mag X) w HX.out.1 (by omega) hl).mono ?_; rintro e w1 ⟨rfl, hb1, hw1⟩; have HA1 : Hid (Blk w1 w.heap.size .u64 60 (mag X) ∧ Below w.heap.size w w1) := ⟨hb1, hw1⟩; clear hb1 hw1))
 go_cut [8, 9] (fun s8 s9 wx => ∃ gc gd, s8 = .slice (some ⟨gc, 0, none⟩) la la ∧ s9 = .slice (some ⟨gd, 0, none⟩) la la ∧ Blk wx gc .u64 60 (List.replicate la 0) ∧ Blk wx gd .u64 60 (List.replicate la 0) ∧ gc ≠ gd ∧ w2.heap.size ≤ gc ∧ w2.heap.size ≤ gd ∧ Below w2.heap.size w2 wx)
 case first =>
  go_region_held3 (fun w9 => Hid True) (first | (show True; trivial)) (first
   | (have _t := HB3; obtain ⟨w4, hrun, hown, hgrow⟩ := run_make_full (P := Tryz.prog) w3 0 26 60 i0 (.int .u64 0) 1 Tryz.underlying26 hi hz0 hz1 .i64 .i64 la b1.out b2.out (Nat.zero_le _); have HB4 : Hid (Blk w4 w3.heap.size .u64 60 (List.replicate la 0) ∧ Below w3.heap.size w3 w4) := ⟨made_blk hown, grown_below hgrow⟩; clear hown hgrow; simp only [hrun]; clear hrun)
   | (obtain ⟨w3, hrun, hown, hgrow⟩ := run_make_full (P := Tryz.prog) w2.drew 0 26 60 i0 (.int .u64 0) 1 Tryz.underlying26 hi hz0 hz1 .i64 .i64 la b1.out b2.out (Nat.zero_le _); have HB3 : Hid (Blk w3 w2.heap.size .u64 60 (List.replicate la 0) ∧ Below w2.heap.size w2 w3) := ⟨made_blk (w := w2.drew) hown, bnext (Below.refl _ _).drew (grown_below hgrow)⟩; clear hown hgrow; simp only [hrun]; clear hrun))
  all_goals go_wp2
  all_goals go_meet
  ·
   exact ⟨_, _, rfl, rfl, HB3.out.1.all HB4.out.2, HB4.out.1, Nat.ne_of_lt HB3.out.1.lt, Nat.le_refl _, HB3.out.2.size, bnext HB3.out.2 HB4.out.2⟩
  ·
   exact ⟨_, _, rfl, rfl, HB4.out.1, HB3.out.1.all HB4.out.2, Nat.ne_of_gt HB3.out.1.lt, HB3.out.2.size, Nat.le_refl _, bnext HB3.out.2 HB4.out.2⟩
 case rest =>
  obtain ⟨gc, gd, rfl, rfl, hbc, hbd, hcd, hgc, hgd, hbw⟩ := hcut
  have HP0 : Hid (ShAt w wc X Y w.heap.size 0 la la (some ⟨w1.heap.size, 0, none⟩) lb lb gc 0 la gd 0 la X Y) := by
   obtain ⟨k1, k2, k3, k4, k5⟩ := HA2.out
   have e1 := HX.out.1.hlen
   have e2 := HX.out.2.1.hlen
   have z0 : Wd 18446744073709551616 (List.replicate la 0) := wd_zeros (by decide) _
   refine ⟨(Own.whole (B := 0) (k1.all hbw) (Nat.zero_le _) e1).row, ⟨_, k1.all hbw, mag_wd _, by omega⟩, (Own.whole (B := 0) (k2.all hbw) (Nat.zero_le _) e2).row, Or.inr ⟨_, _, rfl, _, k2.all hbw, mag_wd _, by omega⟩, ⟨_, hbc, z0, by simp⟩, ⟨_, hbd, z0, by simp⟩, Nat.le_refl _, Nat.le_refl _, ⟨hl, hl', hl, hl⟩, ⟨by omega, by omega, hcd⟩, ?_, ⟨Nat.le_refl _, by omega, by omega⟩, rfl, HX.out.2.2, hXp.out, bnext k3 hbw⟩
   intro g off e
   cases e
   exact ⟨by omega, by omega, by omega, by omega⟩
  clear hbc hbd hcd hgc hgd hbw HA2 HX
  go_wp2
  obtain ⟨numAt, HNUM⟩ := numAt_is
  go_loopw [6, 7, 8, 9] (fun c6 c7 c8 c9 wr => ∃ (ga oa la' ca' : Nat) (bo' : Option Addr) (lb' cb' gc oc lc cc gd od ld cd A B : Nat), c6 = .slice (some ⟨ga, oa, none⟩) la' ca' ∧ c7 = .slice bo' lb' cb' ∧ c8 = .slice (some ⟨gc, oc, none⟩) lc cc ∧ c9 = .slice (some ⟨gd, od, none⟩) ld cd ∧ ShAt w wr X Y ga oa la' ca' bo' lb' cb' gc oc cc gd od cd A B) (fun c6 c7 _ _ wr => numAt c6 wr + numAt c7 wr)
  case atStart => exact ⟨_, _, _, _, _, _, _, _, _, _, _, _, _, _, _, _, _, rfl, rfl, rfl, rfl, HP0.out⟩
  case round =>
   clear HP0
   obtain ⟨ga, oa, la', ca', bo', lb', cb', gc, oc, lc, cc, gd, od, ld, cd, A, B, rfl, rfl, rfl, rfl, hst⟩ := hrel
   have HS : Hid (ShAt w wr X Y ga oa la' ca' bo' lb' cb' gc oc cc gd od cd A B) := hst
   obtain ⟨c1, c2, c3, c4⟩ := hst.caps
   have hla1 : la' ≤ ca' := hst.rowa.hcap
   have hlb1 : lb' ≤ cb' := hst.rowb.hcap
   have hlba : lb' ≤ la' := by
    have := mag_len_mono (a := A) (b := B) hst.le
    rw [← hst.rowa.hlen, ← hst.rowb.hlen] at this; exact this
   have d1 := hst.lc
   have d2 := hst.ld
   clear hst
   by_cases hend : lb' ≤ 1
   ·
    have hend' : ¬ (1 : Int) < (lb' : Int) := by omega
    go_wp2
    go_ret2
    exact ⟨A, B, _, _, _, _, _, _, rfl, HS.out.rowa, HS.out.rowb, hend, by omega, HS.out.gcd, HS.out.below⟩
   ·
    have hgo : (1 : Int) < (lb' : Int) := by omega
    obtain ⟨gb, ob, rfl, hgb, _⟩ := HS.out.rowb.get (by omega)
    have hfo := foresee_any ga oa la' ca' gb ob lb' cb' (mag A) (mag B) wr HS.out.rowa (mag_wd _) HS.out.rowb (mag_wd _) hlba (by omega) (by omega) (by
     have h1 := HS.out.rowa.hlen
     have hne : mag A ≠ [] := fun e => by rw [e] at h1; simp at h1; omega
     have h2 := mag_can A
     obtain ⟨r, t, ht⟩ := snoc_of hne
     rw [ht] at h1 h2 ⊢
     have : la' - 1 = r.length := by simp at h1; omega
     rw [this]; simp [dig]; exact can_snoc.1 h2) (by rw [mag_val, mag_val]; have := HS.out.le; omega)
    rw [mag_val, mag_val] at hfo
    have HF : Hid (Calls Tryz.prog 139 #[.slice (some ⟨ga, oa, none⟩) la' ca', .slice (some ⟨gb, ob, none⟩) lb' cb'] wr fun e w' => Foreseen wr w' e (A : Int) (B : Int)) := hfo
    clear hfo
    go_wp2_with (go_at_call 139; refine HF.out.mono ?_; rintro e wf ⟨u0, v0, u1, v1, odd, rfl, hbd, hsn, hbf⟩; have HV : Hid (((0 ≤ u0 ∧ u0 < 18446744073709551616) ∧ (0 ≤ v0 ∧ v0 < 18446744073709551616) ∧ (0 ≤ u1 ∧ u1 < 18446744073709551616) ∧ (0 ≤ v1 ∧ v1 < 18446744073709551616)) ∧ Seen A B u0 v0 u1 v1 odd ∧ Below wr.heap.size wr wf) := ⟨hbd, hsn, hbf⟩; clear hbd hsn hbf)
    ·
     have HB0 : Hid (0 < B) := by show _ < _; exact mag_len_pos.1 (by rw [← HS.out.rowb.hlen]; omega)
     have HW0 : Hid (Below wr.heap.size wr (wf.alloc (.cells #[.int .u64 u0, .int .u64 v0, .int .u64 u1, .int .u64 v1, .bool odd] 138))) := bnext HV.out.2.2 ((Below.refl _ _).alloc (Nat.le_refl _) _)
     refine (divide_room (some ⟨ga, oa, none⟩) (some ⟨gb, ob, none⟩) la' ca' lb' cb' A B _ (HS.out.rowa.later HW0.out) (HS.out.rowb.later HW0.out) (by omega) (by omega) (by omega) HS.out.le).mono ?_
     rintro e w5 ⟨ao4, n4, cap4, ao5, n5, cap5, rfl, ho4, ho5, hb5, hw5, hc5⟩
     have HN : Hid (ShAt w w5 X Y gb ob lb' cb' ao5 n5 cap5 gc oc cc gd od cd B (A % B)) := HS.out.divided hlba HB0.out HW0.out ho5 hb5 hw5 hc5 (by omega)
     clear ho4 ho5 hb5 hw5 hc5
     go_wp2
     go_roundw
     case rel => exact ⟨_, _, _, _, _, _, _, _, _, _, _, _, _, _, _, _, _, rfl, rfl, rfl, rfl, HN.out⟩
     case measure =>
      rw [HNUM.out _ _ _ _ _ HN.out.rowa, HNUM.out _ _ _ _ _ HN.out.rowb, HNUM.out _ _ _ _ _ HS.out.rowa, HNUM.out _ _ _ _ _ HS.out.rowb]
      have h1 := Nat.mod_lt A HB0.out
      have h2 := HS.out.le
      omega
    ·
     have hv0 : v0 ≠ 0 := by
      have : (v0 == 0) = false := by assumption
      simpa using this
     obtain ⟨A2, B2, ⟨hA2, hB2⟩, hg2, hle2, hAB2, hsum2, hpos2⟩ := seen_nats HV.out.2.1 hv0 HS.out.pos
     have hlt2 : (B : Int) < 18446744073709551616 ^ la' := Int.lt_of_lt_of_le (mag_len_lt HS.out.rowb.hlen) (pow_mono' (by decide) hlba)
     have HN : Hid ((Nat.gcd A2 B2 = Nat.gcd A B ∧ B2 ≤ A2 ∧ A2 ≤ B ∧ 0 < A2 ∧ A2 + B2 ≤ A) ∧ (A2 : Int) < 18446744073709551616 ^ la' ∧ (B2 : Int) < 18446744073709551616 ^ la') := ⟨⟨hg2, hle2, hAB2, hpos2, hsum2⟩, by omega, by omega⟩
     have HD : Hid (gb ≠ ga ∧ gb ≠ gc ∧ gb ≠ gd ∧ ga ≠ gc ∧ ga ≠ gd ∧ gc ≠ gd) := ⟨(HS.out.apartb gb ob rfl).1, (HS.out.apartb gb ob rfl).2.1, (HS.out.apartb gb ob rfl).2.2.1, HS.out.apart.1, HS.out.apart.2.1, HS.out.apart.2.2⟩
     have HLt : Hid (gc < wf.heap.size ∧ gd < wf.heap.size) := ⟨Nat.lt_of_lt_of_le HS.out.roomc.lt HV.out.2.2.size, Nat.lt_of_lt_of_le HS.out.roomd.lt HV.out.2.2.size⟩
     have HW0 : Hid (∀ k, Below wr.heap.size wr ((wf.alloc (.cells #[.int .u64 u0, .int .u64 v0, .int .u64 u1, .int .u64 v1, .bool odd] 138)).drewN k)) := fun k => below_drewN (bnext HV.out.2.2 ((Below.refl _ _).alloc (Nat.le_refl _) _)) k
     have i1 : (0 : Int) ≤ (la' : Int) := by omega
     have i2 : (la' : Int) ≤ (cc : Int) := by omega
     have i3 : (la' : Int) ≤ (cd : Int) := by omega
     have i4 : (0 : Int) ≤ (ca' : Int) := by omega
     have i5 : (0 : Int) ≤ (cb' : Int) := by omega
     clear hg2 hle2 hAB2 hsum2 hpos2 hlt2 hv0
     cases odd
     ·
      simp only [Bool.false_eq_true, if_false] at hA2 hB2
      have HT : Hid ((A2 : Int) = u0 * val 18446744073709551616 (mag A) - v0 * val 18446744073709551616 (mag B) ∧ (B2 : Int) = v1 * val 18446744073709551616 (mag B) - u1 * val 18446744073709551616 (mag A)) := by rw [mag_val, mag_val]; exact ⟨hA2, hB2⟩
      clear hA2 hB2
      go_quiet (fail)
      have hlw : wf.heap.size < wf.heap.size + 1 := by omega
      go_wp2_with (first
       | (go_at_call 140; have _t := HC1; refine (combine_reg gd od la' cd (some ⟨gb, ob, none⟩) lb' cb' (some ⟨ga, oa, none⟩) la' ca' v1 u1 (mag B) (mag A) w3 (((HS.out.roomd.later (Chg.below (F := Fr 0 0 0) (HW0.out nq))).later HC1.out.1).part (by omega)) d2 (by omega) ((HS.out.rowb.later (HW0.out nq)).stays HC1.out.1 (fun t ht hF => absurd hF.1 HD.out.2.1)) (mag_wd _) ((HS.out.rowa.later (HW0.out nq)).stays HC1.out.1 (fun t ht hF => absurd hF.1 HD.out.2.2.2.1)) (mag_wd _) (hlba) (Nat.le_refl _) (apart_of (fun e => absurd e HD.out.2.2.1)) (apart_of (fun e => absurd e HD.out.2.2.2.2.1)) HV.out.1.2.2.2 HV.out.1.2.2.1 (B2 : Int) HT.out.2 (by omega) HN.out.2.2).mono ?_; rintro e w4 ⟨rfl, hC, hV⟩; have HC2 : Hid (Chg (Fr gd od la') w3 w4 ∧ RowV w4 (some ⟨gd, od, none⟩) la' cd (B2 : Int) ∧ RowV w4 (some ⟨gc, oc, none⟩) la' cc (A2 : Int)) := ⟨hC, hV, HC1.out.2.later hC (fun t ht hF => absurd hF.1 HD.out.2.2.2.2.2)⟩; clear hC hV)
       | (go_at_call 140; have _t := HW0; refine (combine_reg gc oc la' cc (some ⟨ga, oa, none⟩) la' ca' (some ⟨gb, ob, none⟩) lb' cb' u0 v0 (mag A) (mag B) _ ((HS.out.roomc.later (Chg.below (F := Fr 0 0 0) (HW0.out nq))).part (by omega)) d1 (by omega) (HS.out.rowa.later (HW0.out nq)) (mag_wd _) (HS.out.rowb.later (HW0.out nq)) (mag_wd _) (Nat.le_refl _) (hlba) (apart_of (fun e => absurd e HD.out.2.2.2.1)) (apart_of (fun e => absurd e HD.out.2.1)) HV.out.1.1 HV.out.1.2.1 (A2 : Int) HT.out.1 (by omega) HN.out.2.1).mono ?_; rintro e w3 ⟨rfl, hC, hV⟩; have k0 : w3.cell? ⟨wf.heap.size, 0, none⟩ = some (.int .u64 u0) := (hC.cell wf.heap.size 0 (by simp) (fun hF => (by have h1 := hF.1; have h2 := HLt.out; omega))).trans (by simp [go_sem]); have k1 : w3.cell? ⟨wf.heap.size, 1, none⟩ = some (.int .u64 v0) := (hC.cell wf.heap.size 1 (by simp) (fun hF => (by have h1 := hF.1; have h2 := HLt.out; omega))).trans (by simp [go_sem]); have k2 : w3.cell? ⟨wf.heap.size, 2, none⟩ = some (.int .u64 u1) := (hC.cell wf.heap.size 2 (by simp) (fun hF => (by have h1 := hF.1; have h2 := HLt.out; omega))).trans (by simp [go_sem]); have k3 : w3.cell? ⟨wf.heap.size, 3, none⟩ = some (.int .u64 v1) := (hC.cell wf.heap.size 3 (by simp) (fun hF => (by have h1 := hF.1; have h2 := HLt.out; omega))).trans (by simp [go_sem]); have HC1 : Hid (Chg (Fr gc oc la') ((wf.alloc (.cells #[.int .u64 u0, .int .u64 v0, .int .u64 u1, .int .u64 v1, .bool false] 138)).drewN nq) w3 ∧ RowV w3 (some ⟨gc, oc, none⟩) la' cc (A2 : Int)) := ⟨hC, hV⟩; clear hC hV))
      go_quiet (fail)
      obtain ⟨za, hza, hwa, hva⟩ := HC2.out.2.2.drewN nq
      obtain ⟨zb, hzb, hwb, hvb⟩ := HC2.out.2.1.drewN nq
      have HZ : Hid ((RowAt (w4.drewN nq) .u64 (some ⟨gc, oc, none⟩) la' cc za ∧ Wd 18446744073709551616 za ∧ val 18446744073709551616 za = (A2 : Int)) ∧ (RowAt (w4.drewN nq) .u64 (some ⟨gd, od, none⟩) la' cd zb ∧ Wd 18446744073709551616 zb ∧ val 18446744073709551616 zb = (B2 : Int))) := ⟨⟨hza, hwa, hva⟩, ⟨hzb, hwb, hvb⟩⟩
      clear hza hwa hva hzb hwb hvb k0 k1 k2 k3
      go_wp2_with (first
       | (go_at_call 123; have _t := HR1; refine (trim_any (some ⟨gd, od, none⟩) la' cd zb _ HZ.out.2.1 (by omega)).mono ?_; rintro e w6 ⟨hTr, hw6⟩; replace hw6 := hw6.symm; subst hw6; obtain ⟨ao2, l2, c2', rfl, hr2, ho2⟩ := trim_num hTr HZ.out.2.2.1 HZ.out.2.2.2; have HR2 : Hid (ShAt w (w4.drewN nq) X Y gc oc l1 cc ao2 l2 c2' ga oa ca' gb ob cb' A2 B2) := HS.out.combined (HW0.out _) HC1.out.1 (HC2.out.1.drewN nq) HR1.out ⟨rfl, rfl⟩ hr2 ho2 hlba HN.out.1.1 HN.out.1.2.1 HN.out.1.2.2.1 HN.out.1.2.2.2.1; clear hTr hr2 ho2)
       | (go_at_call 123; refine (trim_any (some ⟨gc, oc, none⟩) la' cc za _ HZ.out.1.1 (by omega)).mono ?_; rintro e w5 ⟨hTr, hw5⟩; replace hw5 := hw5.symm; subst hw5; obtain ⟨ao1, l1, c1', rfl, hr1, ho1⟩ := trim_num hTr HZ.out.1.2.1 HZ.out.1.2.2; have ha1 : ao1 = some ⟨gc, oc, none⟩ ∧ c1' = cc := (by rcases ho1 with h | ⟨_, h, _⟩ <;> first | exact h | (exfalso; have q1 := hr1.hlen; have q2 := mag_len_pos.2 HN.out.1.2.2.2.1; omega)); obtain ⟨e1, e2⟩ := ha1; replace e2 := e2.symm; subst e1; subst e2; have HR1 : Hid (RowAt (w4.drewN nq) .u64 (some ⟨gc, oc, none⟩) l1 cc (mag A2)) := hr1; clear hTr hr1 ho1))
      go_roundw
      case rel => exact ⟨_, _, _, _, _, _, _, _, _, _, _, _, _, _, _, _, _, rfl, rfl, rfl, rfl, HR2.out⟩
      case measure =>
       rw [HNUM.out _ _ _ _ _ HR2.out.rowa, HNUM.out _ _ _ _ _ HR2.out.rowb, HNUM.out _ _ _ _ _ HS.out.rowa, HNUM.out _ _ _ _ _ HS.out.rowb]
       have h1 := HN.out.1.2.2.2.2
       have h2 := mag_len_pos.1 (show 0 < (mag B).length by rw [← HS.out.rowb.hlen]; omega)
       omega
     ·
      simp only [if_true] at hA2 hB2
      have HT : Hid ((A2 : Int) = v0 * val 18446744073709551616 (mag B) - u0 * val 18446744073709551616 (mag A) ∧ (B2 : Int) = u1 * val 18446744073709551616 (mag A) - v1 * val 18446744073709551616 (mag B)) := by rw [mag_val, mag_val]; exact ⟨hA2, hB2⟩
      clear hA2 hB2
      go_quiet (fail)
      have hlw : wf.heap.size < wf.heap.size + 1 := by omega
      go_wp2_with (first
       | (go_at_call 140; have _t := HC1; refine (combine_reg gd od la' cd (some ⟨ga, oa, none⟩) la' ca' (some ⟨gb, ob, none⟩) lb' cb' u1 v1 (mag A) (mag B) w3 (((HS.out.roomd.later (Chg.below (F := Fr 0 0 0) (HW0.out nq))).later HC1.out.1).part (by omega)) d2 (by omega) ((HS.out.rowa.later (HW0.out nq)).stays HC1.out.1 (fun t ht hF => absurd hF.1 HD.out.2.2.2.1)) (mag_wd _) ((HS.out.rowb.later (HW0.out nq)).stays HC1.out.1 (fun t ht hF => absurd hF.1 HD.out.2.1)) (mag_wd _) (Nat.le_refl _) (hlba) (apart_of (fun e => absurd e HD.out.2.2.2.2.1)) (apart_of (fun e => absurd e HD.out.2.2.1)) HV.out.1.2.2.1 HV.out.1.2.2.2 (B2 : Int) HT.out.2 (by omega) HN.out.2.2).mono ?_; rintro e w4 ⟨rfl, hC, hV⟩; have HC2 : Hid (Chg (Fr gd od la') w3 w4 ∧ RowV w4 (some ⟨gd, od, none⟩) la' cd (B2 : Int) ∧ RowV w4 (some ⟨gc, oc, none⟩) la' cc (A2 : Int)) := ⟨hC, hV, HC1.out.2.later hC (fun t ht hF => absurd hF.1 HD.out.2.2.2.2.2)⟩; clear hC hV)
       | (go_at_call 140; have _t := HW0; refine (combine_reg gc oc la' cc (some ⟨gb, ob, none⟩) lb' cb' (some ⟨ga, oa, none⟩) la' ca' v0 u0 (mag B) (mag A) _ ((HS.out.roomc.later (Chg.below (F := Fr 0 0 0) (HW0.out nq))).part (by omega)) d1 (by omega) (HS.out.rowb.later (HW0.out nq)) (mag_wd _) (HS.out.rowa.later (HW0.out nq)) (mag_wd _) (hlba) (Nat.le_refl _) (apart_of (fun e => absurd e HD.out.2.1)) (apart_of (fun e => absurd e HD.out.2.2.2.1)) HV.out.1.2.1 HV.out.1.1 (A2 : Int) HT.out.1 (by omega) HN.out.2.1).mono ?_; rintro e w3 ⟨rfl, hC, hV⟩; have k0 : w3.cell? ⟨wf.heap.size, 0, none⟩ = some (.int .u64 u0) := (hC.cell wf.heap.size 0 (by simp) (fun hF => (by have h1 := hF.1; have h2 := HLt.out; omega))).trans (by simp [go_sem]); have k1 : w3.cell? ⟨wf.heap.size, 1, none⟩ = some (.int .u64 v0) := (hC.cell wf.heap.size 1 (by simp) (fun hF => (by have h1 := hF.1; have h2 := HLt.out; omega))).trans (by simp [go_sem]); have k2 : w3.cell? ⟨wf.heap.size, 2, none⟩ = some (.int .u64 u1) := (hC.cell wf.heap.size 2 (by simp) (fun hF => (by have h1 := hF.1; have h2 := HLt.out; omega))).trans (by simp [go_sem]); have k3 : w3.cell? ⟨wf.heap.size, 3, none⟩ = some (.int .u64 v1) := (hC.cell wf.heap.size 3 (by simp) (fun hF => (by have h1 := hF.1; have h2 := HLt.out; omega))).trans (by simp [go_sem]); have HC1 : Hid (Chg (Fr gc oc la') ((wf.alloc (.cells #[.int .u64 u0, .int .u64 v0, .int .u64 u1, .int .u64 v1, .bool true] 138)).drewN nq) w3 ∧ RowV w3 (some ⟨gc, oc, none⟩) la' cc (A2 : Int)) := ⟨hC, hV⟩; clear hC hV))
      go_quiet (fail)
      obtain ⟨za, hza, hwa, hva⟩ := HC2.out.2.2.drewN nq
      obtain ⟨zb, hzb, hwb, hvb⟩ := HC2.out.2.1.drewN nq
      have HZ : Hid ((RowAt (w4.drewN nq) .u64 (some ⟨gc, oc, none⟩) la' cc za ∧ Wd 18446744073709551616 za ∧ val 18446744073709551616 za = (A2 : Int)) ∧ (RowAt (w4.drewN nq) .u64 (some ⟨gd, od, none⟩) la' cd zb ∧ Wd 18446744073709551616 zb ∧ val 18446744073709551616 zb = (B2 : Int))) := ⟨⟨hza, hwa, hva⟩, ⟨hzb, hwb, hvb⟩⟩
      clear hza hwa hva hzb hwb hvb k0 k1 k2 k3
      go_wp2_with (first
       | (go_at_call 123; have _t := HR1; refine (trim_any (some ⟨gd, od, none⟩) la' cd zb _ HZ.out.2.1 (by omega)).mono ?_; rintro e w6 ⟨hTr, hw6⟩; replace hw6 := hw6.symm; subst hw6; obtain ⟨ao2, l2, c2', rfl, hr2, ho2⟩ := trim_num hTr HZ.out.2.2.1 HZ.out.2.2.2; have HR2 : Hid (ShAt w (w4.drewN nq) X Y gc oc l1 cc ao2 l2 c2' ga oa ca' gb ob cb' A2 B2) := HS.out.combined (HW0.out _) HC1.out.1 (HC2.out.1.drewN nq) HR1.out ⟨rfl, rfl⟩ hr2 ho2 hlba HN.out.1.1 HN.out.1.2.1 HN.out.1.2.2.1 HN.out.1.2.2.2.1; clear hTr hr2 ho2)
       | (go_at_call 123; refine (trim_any (some ⟨gc, oc, none⟩) la' cc za _ HZ.out.1.1 (by omega)).mono ?_; rintro e w5 ⟨hTr, hw5⟩; replace hw5 := hw5.symm; subst hw5; obtain ⟨ao1, l1, c1', rfl, hr1, ho1⟩ := trim_num hTr HZ.out.1.2.1 HZ.out.1.2.2; have ha1 : ao1 = some ⟨gc, oc, none⟩ ∧ c1' = cc := (by rcases ho1 with h | ⟨_, h, _⟩ <;> first | exact h | (exfalso; have q1 := hr1.hlen; have q2 := mag_len_pos.2 HN.out.1.2.2.2.1; omega)); obtain ⟨e1, e2⟩ := ha1; replace e2 := e2.symm; subst e1; subst e2; have HR1 : Hid (RowAt (w4.drewN nq) .u64 (some ⟨gc, oc, none⟩) l1 cc (mag A2)) := hr1; clear hTr hr1 ho1))
      go_roundw
      case rel => exact ⟨_, _, _, _, _, _, _, _, _, _, _, _, _, _, _, _, _, rfl, rfl, rfl, rfl, HR2.out⟩
      case measure =>
       rw [HNUM.out _ _ _ _ _ HR2.out.rowa, HNUM.out _ _ _ _ _ HR2.out.rowb, HNUM.out _ _ _ _ _ HS.out.rowa, HNUM.out _ _ _ _ _ HS.out.rowb]
       have h1 := HN.out.1.2.2.2.2
       have h2 := mag_len_pos.1 (show 0 < (mag B).length by rw [← HS.out.rowb.hlen]; omega)
       omega
theorem tab_lt {g : Nat} {w : World} (h : TabAt g Lib.deBruijn64tab w) : g < w.heap.size := cell_lt (h 0 (by decide))
theorem tab_later {g : Nat} {w w' : World} (h : TabAt g Lib.deBruijn64tab w) (hb : Below w.heap.size w w') : TabAt g Lib.deBruijn64tab w' := fun j hj => (hb.cell (p := ⟨g, j, none⟩) (tab_lt h)).trans (h j hj)
theorem gcd_mod (A B : Nat) : Nat.gcd (A % B) B = Nat.gcd A B := by rw [← Nat.gcd_rec, Nat.gcd_comm]
theorem below_nq {B : Nat} {a b : World} {n : Nat} (h : Below B a b) : Below B a (b.drewN n) := ⟨h.os, h.tape, h.output, h.size, h.block⟩
def Ends (w W : World) (xo yo : Option Addr) (lx cx ly cy A B a b : Nat) : Prop := RowAt W .u64 xo lx cx (mag A) ∧ RowAt W .u64 yo ly cy (mag B) ∧ lx ≤ 4294967296 ∧ Nat.gcd A B = Nat.gcd a b ∧ Below w.heap.size w W ∧ TabAt 0 Lib.deBruijn64tab W
theorem commonDivisor_any (ao bo : Option Addr) (la ca lb cb a b : Nat) (w : World) (hxa : RowAt w .u64 ao la ca (mag a)) (hxb : RowAt w .u64 bo lb cb (mag b)) (hl : la ≤ 4294967296) (hl' : lb ≤ 4294967296) (hT : TabAt 0 Lib.deBruijn64tab w) :
  Calls Tryz.prog 111 #[.slice ao la ca, .slice bo lb cb] w fun e w' => NewNat w w' e (Nat.gcd a b) := by
 have HX : Hid (RowAt w .u64 ao la ca (mag a) ∧ RowAt w .u64 bo lb cb (mag b)) := ⟨hxa, hxb⟩
 have HT : Hid (TabAt 0 Lib.deBruijn64tab w) := hT
 obtain ⟨c, hc⟩ : ∃ c, cmpI (a : Int) (b : Int) = c := ⟨_, rfl⟩
 have hcmp := compare_at ao bo la ca lb cb a b w hxa hxb hl hl' c hc
 have ha1 := hxa.hlen
 have hb1 := hxb.hlen
 by_cases hlt : a < b
 ·
  have hcl : c < 0 := by rw [← hc, cmpI_lt (by omega)]; decide
  have HO : Hid (a ≤ b) := Nat.le_of_lt hlt
  have hll : la ≤ lb := by rw [ha1, hb1]; exact mag_len_mono (Nat.le_of_lt hlt)
  clear hxa hxb hT hc ha1 hb1 hlt
  by_cases hlong : 1 < la
  ·
   have hlong' : (1 : Int) < (la : Int) := by omega
   go_enter Tryz.func111, Tryz.ntmps111
   go_wp2_with (first
    | (go_at_call 115; refine hcmp.mono ?_; rintro e w1 ⟨rfl, hb1⟩; have HB1 : Hid (Below w.heap.size w w1) := hb1; clear hb1)
    | (go_at_call 127; refine (shorten_any bo ao lb cb la ca b a w1 (HX.out.2.later HB1.out) (HX.out.1.later HB1.out) hl' hl (by omega) HO.out).mono ?_; rintro e w2 ⟨A, B, xo, lx, cx, yo, ly, cy, rfl, hr1, hr2, hly, hlx, hg, hb2⟩; have HE : Hid (Ends w w2 xo yo lx cx ly cy A B a b) := ⟨hr1, hr2, hlx, hg.trans (Nat.gcd_comm _ _), bnext HB1.out hb2, tab_later HT.out (bnext HB1.out hb2)⟩; clear hr1 hr2 hg hb2)
    | (go_at_call 128; refine (clone_any xo lx cx (mag A) _ HE.out.1 HE.out.2.2.1).mono ?_; rintro e z1 ⟨ao9, l9, c9, rfl, ho9, hb9⟩))
   ·
    have h0 : ((ly : Int) == 0) = true := by assumption
    have h1 : ly = 0 := by simpa using h0
    have HB0 : B = 0 := by (have q := HE.out.2.1.hlen; rw [h1] at q; exact (limbs_eq_nil (q := 18446744073709551616) (by decide)).1 (List.eq_nil_of_length_eq_zero q.symm))
    have hgg : Nat.gcd a b = A := HE.out.2.2.2.1.symm.trans (by rw [HB0, Nat.gcd_zero_right])
    go_ret
    exact ⟨ao9, l9, c9, rfl, by rw [hgg]; exact ho9.mono HE.out.2.2.2.2.1.size, bnext HE.out.2.2.2.2.1 hb9⟩
   ·
    have h0 : ((ly : Int) == 0) = false := by assumption
    have h1 : ly ≠ 0 := by simpa using h0
    have h2 : ly = 1 := by omega
    obtain ⟨p, o, hpo, hp, hcp⟩ := HE.out.2.1.get (by omega)
    have n1 := mag_of_one (n := B) (by rw [← HE.out.2.1.hlen]; exact h2)
    have hc0 : w2.cell? ⟨p, o, none⟩ = some (.int .u64 (B : Int)) := by (have q := hcp 0 (by omega); rw [n1.1] at q; exact q)
    have KS : Hid (∀ w' : World, Below w2.heap.size w2 w' → w'.cell? ⟨p, o, none⟩ = some (.int .u64 (B : Int))) := fun w' h => (h.cell (p := ⟨p, o, none⟩) hp).trans hc0
    have HN : Hid (0 < B ∧ B < 18446744073709551616 ∧ A % B < B) := ⟨n1.2.1, n1.2.2, Nat.mod_lt _ n1.2.1⟩
    have hmd := modLimb_any xo lx cx (B : Int) (mag A) w2.drew (HE.out.1.later (Below.refl _ _).drew) (mag_wd _) HE.out.2.2.1 (by have := n1.2.1; omega) (by have := n1.2.2; omega)
    rw [mag_val, show (A : Int) % (B : Int) = ((A % B : Nat) : Int) by omega] at hmd
    have HMd : Hid (Calls Tryz.prog 130 #[.slice xo lx cx, .int .u64 (B : Int)] w2.drew fun e w' => e = .returned (.int .u64 ((A % B : Nat) : Int)) ∧ ∃ n, w' = w2.drew.drewN n) := hmd
    have hpos1 : (0 : Int) < 1 := by decide
    subst hpo
    clear hmd n1 hcp hc0 h1
    subst h2
    go_region_held3 (fun w' => w'.cell? ⟨p, o, none⟩ = some (.int .u64 (B : Int)))
     (first
      | exact KS.out _ (Below.refl _ _).drew
      | exact KS.out _ (below_nq (Below.refl _ _))
      | exact KS.out _ (below_nq (Below.refl _ _).drew)
      | exact KS.out _ (by assumption))
     (first
      | (go_at_call 130; refine HMd.out.mono ?_; rintro e z1 ⟨rfl, nn, rfl⟩)
      | (go_at_call 129; refine Calls.mono (limbDivisor_any (A % B) B _ (by have := HN.out; omega) HN.out.1 HN.out.2.1 (by first | exact tab_later HE.out.2.2.2.2.2 (below_nq (Below.refl _ _)) | exact tab_later HE.out.2.2.2.2.2 (below_nq (Below.refl _ _).drew))) ?_; rintro e z2 ⟨rfl, hz2⟩; replace hz2 := hz2.symm; subst hz2)
      | (go_at_call 85; refine (ofLimb_any (Nat.gcd (A % B) B) _ (Nat.lt_of_le_of_lt (Nat.gcd_le_right _ HN.out.1) HN.out.2.1)).mono ?_; rintro e z3 ⟨ao9, l9, c9, rfl, ho9, hb9⟩; have hbz : Below w2.heap.size w2 z3 := (by first | exact bnext (below_nq (Below.refl _ _)) hb9 | exact bnext (below_nq (Below.refl _ _).drew) hb9)))
    go_wp2
    go_ret
    exact ⟨ao9, l9, c9, rfl, by rw [← HE.out.2.2.2.1, ← gcd_mod]; exact ho9.mono HE.out.2.2.2.2.1.size, bnext HE.out.2.2.2.2.1 hbz⟩
  ·
   have hlong' : ¬ (1 : Int) < (la : Int) := by omega
   go_enter Tryz.func111, Tryz.ntmps111
   go_wp2_with (first
    | (go_at_call 115; refine hcmp.mono ?_; rintro e w1 ⟨rfl, hb1⟩; have HB1 : Hid (Below w.heap.size w w1) := hb1; clear hb1; have HE : Hid (Ends w w1 bo ao lb cb la ca b a a b) := ⟨HX.out.2.later HB1.out, HX.out.1.later HB1.out, hl', Nat.gcd_comm _ _, HB1.out, tab_later HT.out HB1.out⟩; have hly : la ≤ 1 := (by omega))
    | (go_at_call 128; refine (clone_any bo lb cb (mag b) _ HE.out.1 HE.out.2.2.1).mono ?_; rintro e z1 ⟨ao9, l9, c9, rfl, ho9, hb9⟩))
   ·
    have h0 : ((la : Int) == 0) = true := by assumption
    have h1 : la = 0 := by simpa using h0
    have HB0 : a = 0 := by (have q := HE.out.2.1.hlen; rw [h1] at q; exact (limbs_eq_nil (q := 18446744073709551616) (by decide)).1 (List.eq_nil_of_length_eq_zero q.symm))
    have hgg : Nat.gcd a b = b := HE.out.2.2.2.1.symm.trans (by rw [HB0, Nat.gcd_zero_right])
    go_ret
    exact ⟨ao9, l9, c9, rfl, by rw [hgg]; exact ho9.mono HE.out.2.2.2.2.1.size, bnext HE.out.2.2.2.2.1 hb9⟩
   ·
    have h0 : ((la : Int) == 0) = false := by assumption
    have h1 : la ≠ 0 := by simpa using h0
    have h2 : la = 1 := by omega
    obtain ⟨p, o, hpo, hp, hcp⟩ := HE.out.2.1.get (by omega)
    have n1 := mag_of_one (n := a) (by rw [← HE.out.2.1.hlen]; exact h2)
    have hc0 : w1.cell? ⟨p, o, none⟩ = some (.int .u64 (a : Int)) := by (have q := hcp 0 (by omega); rw [n1.1] at q; exact q)
    have KS : Hid (∀ w' : World, Below w1.heap.size w1 w' → w'.cell? ⟨p, o, none⟩ = some (.int .u64 (a : Int))) := fun w' h => (h.cell (p := ⟨p, o, none⟩) hp).trans hc0
    have HN : Hid (0 < a ∧ a < 18446744073709551616 ∧ b % a < a) := ⟨n1.2.1, n1.2.2, Nat.mod_lt _ n1.2.1⟩
    have hmd := modLimb_any bo lb cb (a : Int) (mag b) w1.drew (HE.out.1.later (Below.refl _ _).drew) (mag_wd _) HE.out.2.2.1 (by have := n1.2.1; omega) (by have := n1.2.2; omega)
    rw [mag_val, show (b : Int) % (a : Int) = ((b % a : Nat) : Int) by omega] at hmd
    have HMd : Hid (Calls Tryz.prog 130 #[.slice bo lb cb, .int .u64 (a : Int)] w1.drew fun e w' => e = .returned (.int .u64 ((b % a : Nat) : Int)) ∧ ∃ n, w' = w1.drew.drewN n) := hmd
    have hpos1 : (0 : Int) < 1 := by decide
    subst hpo
    clear hmd n1 hcp hc0 h1
    subst h2
    go_region_held3 (fun w' => w'.cell? ⟨p, o, none⟩ = some (.int .u64 (a : Int)))
     (first
      | exact KS.out _ (Below.refl _ _).drew
      | exact KS.out _ (below_nq (Below.refl _ _))
      | exact KS.out _ (below_nq (Below.refl _ _).drew)
      | exact KS.out _ (by assumption))
     (first
      | (go_at_call 130; refine HMd.out.mono ?_; rintro e z1 ⟨rfl, nn, rfl⟩)
      | (go_at_call 129; refine Calls.mono (limbDivisor_any (b % a) a _ (by have := HN.out; omega) HN.out.1 HN.out.2.1 (by first | exact tab_later HE.out.2.2.2.2.2 (below_nq (Below.refl _ _)) | exact tab_later HE.out.2.2.2.2.2 (below_nq (Below.refl _ _).drew))) ?_; rintro e z2 ⟨rfl, hz2⟩; replace hz2 := hz2.symm; subst hz2)
      | (go_at_call 85; refine (ofLimb_any (Nat.gcd (b % a) a) _ (Nat.lt_of_le_of_lt (Nat.gcd_le_right _ HN.out.1) HN.out.2.1)).mono ?_; rintro e z3 ⟨ao9, l9, c9, rfl, ho9, hb9⟩; have hbz : Below w1.heap.size w1 z3 := (by first | exact bnext (below_nq (Below.refl _ _)) hb9 | exact bnext (below_nq (Below.refl _ _).drew) hb9)))
    go_wp2
    go_ret
    exact ⟨ao9, l9, c9, rfl, by rw [← HE.out.2.2.2.1, ← gcd_mod]; exact ho9.mono HE.out.2.2.2.2.1.size, bnext HE.out.2.2.2.2.1 hbz⟩
 ·
  have hcl : ¬ c < 0 := by rw [← hc]; unfold cmpI; rw [if_neg (by omega)]; split <;> decide
  have HO : Hid (b ≤ a) := by show _ ≤ _; omega
  have hll : lb ≤ la := by rw [ha1, hb1]; exact mag_len_mono (by omega)
  clear hxa hxb hT hc ha1 hb1 hlt
  by_cases hlong : 1 < lb
  ·
   have hlong' : (1 : Int) < (lb : Int) := by omega
   go_enter Tryz.func111, Tryz.ntmps111
   go_wp2_with (first
    | (go_at_call 115; refine hcmp.mono ?_; rintro e w1 ⟨rfl, hb1⟩; have HB1 : Hid (Below w.heap.size w w1) := hb1; clear hb1)
    | (go_at_call 127; refine (shorten_any ao bo la ca lb cb a b w1 (HX.out.1.later HB1.out) (HX.out.2.later HB1.out) hl hl' (by omega) HO.out).mono ?_; rintro e w2 ⟨A, B, xo, lx, cx, yo, ly, cy, rfl, hr1, hr2, hly, hlx, hg, hb2⟩; have HE : Hid (Ends w w2 xo yo lx cx ly cy A B a b) := ⟨hr1, hr2, hlx, hg.trans (rfl), bnext HB1.out hb2, tab_later HT.out (bnext HB1.out hb2)⟩; clear hr1 hr2 hg hb2)
    | (go_at_call 128; refine (clone_any xo lx cx (mag A) _ HE.out.1 HE.out.2.2.1).mono ?_; rintro e z1 ⟨ao9, l9, c9, rfl, ho9, hb9⟩))
   ·
    have h0 : ((ly : Int) == 0) = true := by assumption
    have h1 : ly = 0 := by simpa using h0
    have HB0 : B = 0 := by (have q := HE.out.2.1.hlen; rw [h1] at q; exact (limbs_eq_nil (q := 18446744073709551616) (by decide)).1 (List.eq_nil_of_length_eq_zero q.symm))
    have hgg : Nat.gcd a b = A := HE.out.2.2.2.1.symm.trans (by rw [HB0, Nat.gcd_zero_right])
    go_ret
    exact ⟨ao9, l9, c9, rfl, by rw [hgg]; exact ho9.mono HE.out.2.2.2.2.1.size, bnext HE.out.2.2.2.2.1 hb9⟩
   ·
    have h0 : ((ly : Int) == 0) = false := by assumption
    have h1 : ly ≠ 0 := by simpa using h0
    have h2 : ly = 1 := by omega
    obtain ⟨p, o, hpo, hp, hcp⟩ := HE.out.2.1.get (by omega)
    have n1 := mag_of_one (n := B) (by rw [← HE.out.2.1.hlen]; exact h2)
    have hc0 : w2.cell? ⟨p, o, none⟩ = some (.int .u64 (B : Int)) := by (have q := hcp 0 (by omega); rw [n1.1] at q; exact q)
    have KS : Hid (∀ w' : World, Below w2.heap.size w2 w' → w'.cell? ⟨p, o, none⟩ = some (.int .u64 (B : Int))) := fun w' h => (h.cell (p := ⟨p, o, none⟩) hp).trans hc0
    have HN : Hid (0 < B ∧ B < 18446744073709551616 ∧ A % B < B) := ⟨n1.2.1, n1.2.2, Nat.mod_lt _ n1.2.1⟩
    have hmd := modLimb_any xo lx cx (B : Int) (mag A) w2.drew (HE.out.1.later (Below.refl _ _).drew) (mag_wd _) HE.out.2.2.1 (by have := n1.2.1; omega) (by have := n1.2.2; omega)
    rw [mag_val, show (A : Int) % (B : Int) = ((A % B : Nat) : Int) by omega] at hmd
    have HMd : Hid (Calls Tryz.prog 130 #[.slice xo lx cx, .int .u64 (B : Int)] w2.drew fun e w' => e = .returned (.int .u64 ((A % B : Nat) : Int)) ∧ ∃ n, w' = w2.drew.drewN n) := hmd
    have hpos1 : (0 : Int) < 1 := by decide
    subst hpo
    clear hmd n1 hcp hc0 h1
    subst h2
    go_region_held3 (fun w' => w'.cell? ⟨p, o, none⟩ = some (.int .u64 (B : Int)))
     (first
      | exact KS.out _ (Below.refl _ _).drew
      | exact KS.out _ (below_nq (Below.refl _ _))
      | exact KS.out _ (below_nq (Below.refl _ _).drew)
      | exact KS.out _ (by assumption))
     (first
      | (go_at_call 130; refine HMd.out.mono ?_; rintro e z1 ⟨rfl, nn, rfl⟩)
      | (go_at_call 129; refine Calls.mono (limbDivisor_any (A % B) B _ (by have := HN.out; omega) HN.out.1 HN.out.2.1 (by first | exact tab_later HE.out.2.2.2.2.2 (below_nq (Below.refl _ _)) | exact tab_later HE.out.2.2.2.2.2 (below_nq (Below.refl _ _).drew))) ?_; rintro e z2 ⟨rfl, hz2⟩; replace hz2 := hz2.symm; subst hz2)
      | (go_at_call 85; refine (ofLimb_any (Nat.gcd (A % B) B) _ (Nat.lt_of_le_of_lt (Nat.gcd_le_right _ HN.out.1) HN.out.2.1)).mono ?_; rintro e z3 ⟨ao9, l9, c9, rfl, ho9, hb9⟩; have hbz : Below w2.heap.size w2 z3 := (by first | exact bnext (below_nq (Below.refl _ _)) hb9 | exact bnext (below_nq (Below.refl _ _).drew) hb9)))
    go_wp2
    go_ret
    exact ⟨ao9, l9, c9, rfl, by rw [← HE.out.2.2.2.1, ← gcd_mod]; exact ho9.mono HE.out.2.2.2.2.1.size, bnext HE.out.2.2.2.2.1 hbz⟩
  ·
   have hlong' : ¬ (1 : Int) < (lb : Int) := by omega
   go_enter Tryz.func111, Tryz.ntmps111
   go_wp2_with (first
    | (go_at_call 115; refine hcmp.mono ?_; rintro e w1 ⟨rfl, hb1⟩; have HB1 : Hid (Below w.heap.size w w1) := hb1; clear hb1; have HE : Hid (Ends w w1 ao bo la ca lb cb a b a b) := ⟨HX.out.1.later HB1.out, HX.out.2.later HB1.out, hl, rfl, HB1.out, tab_later HT.out HB1.out⟩; have hly : lb ≤ 1 := (by omega))
    | (go_at_call 128; refine (clone_any ao la ca (mag a) _ HE.out.1 HE.out.2.2.1).mono ?_; rintro e z1 ⟨ao9, l9, c9, rfl, ho9, hb9⟩))
   ·
    have h0 : ((lb : Int) == 0) = true := by assumption
    have h1 : lb = 0 := by simpa using h0
    have HB0 : b = 0 := by (have q := HE.out.2.1.hlen; rw [h1] at q; exact (limbs_eq_nil (q := 18446744073709551616) (by decide)).1 (List.eq_nil_of_length_eq_zero q.symm))
    have hgg : Nat.gcd a b = a := HE.out.2.2.2.1.symm.trans (by rw [HB0, Nat.gcd_zero_right])
    go_ret
    exact ⟨ao9, l9, c9, rfl, by rw [hgg]; exact ho9.mono HE.out.2.2.2.2.1.size, bnext HE.out.2.2.2.2.1 hb9⟩
   ·
    have h0 : ((lb : Int) == 0) = false := by assumption
    have h1 : lb ≠ 0 := by simpa using h0
    have h2 : lb = 1 := by omega
    obtain ⟨p, o, hpo, hp, hcp⟩ := HE.out.2.1.get (by omega)
    have n1 := mag_of_one (n := b) (by rw [← HE.out.2.1.hlen]; exact h2)
    have hc0 : w1.cell? ⟨p, o, none⟩ = some (.int .u64 (b : Int)) := by (have q := hcp 0 (by omega); rw [n1.1] at q; exact q)
    have KS : Hid (∀ w' : World, Below w1.heap.size w1 w' → w'.cell? ⟨p, o, none⟩ = some (.int .u64 (b : Int))) := fun w' h => (h.cell (p := ⟨p, o, none⟩) hp).trans hc0
    have HN : Hid (0 < b ∧ b < 18446744073709551616 ∧ a % b < b) := ⟨n1.2.1, n1.2.2, Nat.mod_lt _ n1.2.1⟩
    have hmd := modLimb_any ao la ca (b : Int) (mag a) w1.drew (HE.out.1.later (Below.refl _ _).drew) (mag_wd _) HE.out.2.2.1 (by have := n1.2.1; omega) (by have := n1.2.2; omega)
    rw [mag_val, show (a : Int) % (b : Int) = ((a % b : Nat) : Int) by omega] at hmd
    have HMd : Hid (Calls Tryz.prog 130 #[.slice ao la ca, .int .u64 (b : Int)] w1.drew fun e w' => e = .returned (.int .u64 ((a % b : Nat) : Int)) ∧ ∃ n, w' = w1.drew.drewN n) := hmd
    have hpos1 : (0 : Int) < 1 := by decide
    subst hpo
    clear hmd n1 hcp hc0 h1
    subst h2
    go_region_held3 (fun w' => w'.cell? ⟨p, o, none⟩ = some (.int .u64 (b : Int)))
     (first
      | exact KS.out _ (Below.refl _ _).drew
      | exact KS.out _ (below_nq (Below.refl _ _))
      | exact KS.out _ (below_nq (Below.refl _ _).drew)
      | exact KS.out _ (by assumption))
     (first
      | (go_at_call 130; refine HMd.out.mono ?_; rintro e z1 ⟨rfl, nn, rfl⟩)
      | (go_at_call 129; refine Calls.mono (limbDivisor_any (a % b) b _ (by have := HN.out; omega) HN.out.1 HN.out.2.1 (by first | exact tab_later HE.out.2.2.2.2.2 (below_nq (Below.refl _ _)) | exact tab_later HE.out.2.2.2.2.2 (below_nq (Below.refl _ _).drew))) ?_; rintro e z2 ⟨rfl, hz2⟩; replace hz2 := hz2.symm; subst hz2)
      | (go_at_call 85; refine (ofLimb_any (Nat.gcd (a % b) b) _ (Nat.lt_of_le_of_lt (Nat.gcd_le_right _ HN.out.1) HN.out.2.1)).mono ?_; rintro e z3 ⟨ao9, l9, c9, rfl, ho9, hb9⟩; have hbz : Below w1.heap.size w1 z3 := (by first | exact bnext (below_nq (Below.refl _ _)) hb9 | exact bnext (below_nq (Below.refl _ _).drew) hb9)))
    go_wp2
    go_ret
    exact ⟨ao9, l9, c9, rfl, by rw [← HE.out.2.2.2.1, ← gcd_mod]; exact ho9.mono HE.out.2.2.2.2.1.size, bnext HE.out.2.2.2.2.1 hbz⟩
theorem gcd_len (a b : Nat) : (mag (Nat.gcd a b)).length ≤ (mag a).length + (mag b).length := by
 rcases Nat.eq_zero_or_pos a with e | e
 ·
  subst e; rw [Nat.gcd_zero_left]; omega
 ·
  have := mag_len_mono (Nat.gcd_le_left b e); omega
theorem bgcd_any (na nb : Bool) (ao bo : Option Addr) (la ca lb cb : Nat) (a b : Int) (w : World) (hx : IntAt w na ao la ca a) (hy : IntAt w nb bo lb cb b) (hl : la ≤ 2147483648) (hl' : lb ≤ 2147483648) (hT0 : TabAt 0 Lib.deBruijn64tab w) :
  Calls Tryz.prog 91 #[.agg #[.bool na, .slice ao la ca], .agg #[.bool nb, .slice bo lb cb]] w fun e w' => NewIntErr w w' e (Nat.gcd a.natAbs b.natAbs : Int) := by
 obtain ⟨W, hT⟩ := Two3.mk' w na nb ao bo la ca lb cb
 have hsz := hT.size
 have hc : (if mayB na (mag a.natAbs) && mayB nb (mag b.natAbs) then 0 else 10 : Int) = 0 := by rw [hx.sg, hy.sg, may_int, may_int]; rfl
 have HC : Hid _ := hc
 have HV : Hid ((Nat.gcd a.natAbs b.natAbs : Int) = sgn false (Nat.gcd a.natAbs b.natAbs)) := rfl
 have HTb : Hid (TabAt 0 Lib.deBruijn64tab W) := tab_later hT0 hT.below
 have hRx := hx.later hT.below
 have hRy := hy.later hT.below
 clear hc hx hy hT0
 go_enter Tryz.func91, Tryz.ntmps91
 go_wp2_with (first
  | (go_at_call 102; rw [← hT.eq]; refine (checkBoth_any na nb ao bo la ca lb cb _ _ _ hRx.row hRy.row (by omega) (by omega) 0 HC.out).mono ?_; rintro e w1 ⟨rfl, hb1⟩; have hs1 := hb1.size; have p0 : w1.cell? ⟨w.heap.size, 1, none⟩ = some (.slice ao la ca) := (hb1.cell (p := ⟨w.heap.size, 1, none⟩) (by (show w.heap.size < _; omega))).trans hT.a.2; have p1 : w1.cell? ⟨w.heap.size + 1, 1, none⟩ = some (.slice bo lb cb) := (hb1.cell (p := ⟨w.heap.size + 1, 1, none⟩) (by (show w.heap.size + 1 < _; omega))).trans hT.b.2)
  | (go_at_call 111; refine (commonDivisor_any ao bo la ca lb cb _ _ _ (hRx.row.later hb1) (hRy.row.later hb1) (by omega) (by omega) (tab_later HTb.out hb1)).mono ?_; rintro e w2 ⟨ao2, l2, c2, rfl, ho2, hb2⟩; have hlen2 : l2 ≤ 4294967296 := (by rw [ho2.row.hlen]; have q := gcd_len a.natAbs b.natAbs; rw [← hRx.row.hlen, ← hRy.row.hlen] at q; omega))
  | (go_at_call 84; refine (signed_any false ao2 l2 c2 _ (by omega)).mono ?_; rintro e w3 ⟨rfl, hb3⟩; obtain ⟨g5, g3, g4⟩ := hT.r.later (bnext hb1 (bnext hb2 hb3)) (by omega)))
 have hN := NewInt.ret (w := w) ((ho2.later hb3).store (r := w.heap.size + 1 + 1) (by show _ < w1.heap.size; omega) (.bool (false && decide (0 < l2))) (.slice ao2 l2 c2)) (by show _ ≤ w1.heap.size; omega) HV.out (below_store (bnext hT.below (bnext hb1 (bnext hb2 hb3))) (by omega) _ _)
 obtain ⟨n9, ao9, l9, c9, he9, hrest9⟩ := hN
 simp only [Ending.returned.injEq, Value.agg.injEq] at he9
 exact bodyPost_ret (v := .tuple #[.agg #[.bool (false && decide (0 < l2)), .slice ao2 l2 c2], .int .i64 0]) (by simp [results, Tryz.results91, go_sem, g3, g4]) rfl
  ⟨n9, ao9, l9, c9, by rw [he9], hrest9⟩
end Go.Proofs.YthjkdnlbdhhmbaaGreatDoor
