/-
  A pack of walks and facts: DZ.
-/
import Derived.Test.YthjkdnlbdhhmbaaGreatDoorPV06
set_option maxRecDepth 100000
set_option maxHeartbeats 40000000
set_option linter.unusedVariables false
set_option linter.unusedSimpArgs false
namespace Go.Proofs.YthjkdnlbdhhmbaaGreatDoor
open Go.RowKit
theorem div64_zero (lo y : Int) (w : World) (h1 : 0 < y) (h2 : y < 18446744073709551616) (h3 : 0 ≤ lo) (h4 : lo < 18446744073709551616) :
  Calls Tryz.prog 142 #[.int .u64 0, .int .u64 lo, .int .u64 y] w fun e w' => e = .returned (.tuple #[.int .u64 (lo / y), .int .u64 (lo % y)]) ∧ ∃ n, w' = w.drewN n := by
 have hy0 : (y == 0) = false := by simp; omega
 have hyh : ¬ y ≤ 0 := by omega
 have hy : ¬ y = 0 := by omega
 go_enter Tryz.func142, Tryz.ntmps142
 go_wp2
 go_quiet (fail)
 go_wp2
 go_ret2
 exact ⟨rfl, _, rfl⟩
theorem div64_ex (hi lo y : Int) (h0 : 0 ≤ hi) (h1 : hi < y) (h2 : y < 18446744073709551616) (h3 : 0 ≤ lo) (h4 : lo < 18446744073709551616) :
  ∃ d r : Int, (∀ W : World, Calls Tryz.prog 142 #[.int .u64 hi, .int .u64 lo, .int .u64 y] W fun e w' => e = .returned (.tuple #[.int .u64 d, .int .u64 r]) ∧ ∃ n, w' = W.drewN n) ∧
   (0 ≤ d ∧ d < 18446744073709551616) ∧ (0 ≤ r ∧ r < y) ∧ d * y + r = hi * 18446744073709551616 + lo := by
 refine ⟨(hi * 18446744073709551616 + lo) / y, (hi * 18446744073709551616 + lo) % y, fun W => ?_, ?_, ⟨Int.emod_nonneg _ (by omega), Int.emod_lt_of_pos _ (by omega)⟩, ?_⟩
 ·
  by_cases hh : hi = 0
  ·
   subst hh
   rw [Int.zero_mul, Int.zero_add]
   exact div64_zero lo y W h1 h2 h3 h4
  ·
   refine (div64_pos hi lo y W (by omega) h1 h2 h3 h4).mono ?_
   rintro e w' ⟨rfl, rfl⟩
   exact ⟨rfl, 0, rfl⟩
 ·
  refine ⟨Int.ediv_nonneg (by omega) (by omega), Int.ediv_lt_of_lt_mul (by omega) ?_⟩
  have : (hi + 1) * 18446744073709551616 ≤ y * 18446744073709551616 := Int.mul_le_mul_of_nonneg_right (by omega) (by decide)
  rw [Int.mul_comm 18446744073709551616 y]; omega
 ·
  have := Int.mul_ediv_add_emod (hi * 18446744073709551616 + lo) y
  rw [Int.mul_comm ((hi * 18446744073709551616 + lo) / y) y]; exact this
theorem V_cons (q : Int) (L : List Int) (off m : Nat) : V q L off (m + 1) = dig L off + q * V q L (off + 1) m := by
 have := V_split q L off 1 m
 rw [Nat.add_comm 1 m] at this
 rw [this, V_succ, V_zero, Int.pow_one]; simp
structure QuoSt (q : Int) (L x : List Int) (y : Int) (off n k : Nat) (r : Int) (Lk : List Int) : Prop where
 len : Lk.length = L.length
 out : ∀ j, j < off + k ∨ off + n ≤ j → dig Lk j = dig L j
 wd : Wd q Lk
 r0 : 0 ≤ r
 r1 : r < y
 eq : V q Lk (off + k) (n - k) * y + r = V q x k (n - k)
theorem QuoSt.start {q : Int} {L x : List Int} {y : Int} (off n : Nat) (h : Wd q L) (hy : 0 < y) : QuoSt q L x y off n n 0 L :=
 ⟨rfl, fun _ _ => rfl, h, Int.le_refl _, hy, by simp [V_zero]⟩
theorem QuoSt.step {q : Int} {L x : List Int} {y : Int} {off n k : Nat} {r : Int} {Lk : List Int} (h : QuoSt q L x y off n (k + 1) r Lk) (hk : k < n) (hl : off + n ≤ L.length) {d r' : Int} (hd : 0 ≤ d ∧ d < q) (hr : 0 ≤ r' ∧ r' < y)
  (he : d * y + r' = r * q + dig x k) : QuoSt q L x y off n k r' (Lk.set (off + k) d) := by
 have hl2 : off + k < Lk.length := by rw [h.len]; omega
 refine ⟨by simp [h.len], fun j hj => ?_, h.wd.set _ hd, hr.1, hr.2, ?_⟩
 ·
  rw [dig_set _ hl2, if_neg (by omega)]; exact h.out j (by omega)
 ·
  have e0 : n - k = (n - (k + 1)) + 1 := by omega
  rw [e0, V_cons, V_cons, dig_set _ hl2, if_pos rfl]
  have e1 : V q (Lk.set (off + k) d) (off + k + 1) (n - (k + 1)) = V q Lk (off + (k + 1)) (n - (k + 1)) := V_congr fun j hj => by rw [dig_set _ hl2, if_neg (by omega)]; rfl
  rw [e1]
  have := h.eq
  grind
def Quoted (w w' : World) (e : Ending) (g off n : Nat) (L xs : List Int) (y : Int) : Prop :=
 ∃ r L', e = .returned (.int .u64 r) ∧ Blk w' g .u64 60 L' ∧ QuoSt 18446744073709551616 L xs y off n 0 r L' ∧ Touch g w w'
theorem divideByLimb_any (g off n cap : Nat) (bo : Option Addr) (cb : Nat) (L xs : List Int) (y : Int) (w : World) (hb : Blk w g .u64 60 L) (hW : Wd 18446744073709551616 L) (hn : off + n ≤ L.length) (hnc : n ≤ cap) (hcap : cap ≤ 4611686018427387904)
  (hx : RowAt w .u64 bo n cb xs) (hxW : Wd 18446744073709551616 xs) (hap : Apart bo n g off n) (hy : 0 < y) (hy' : y < 18446744073709551616) :
  Calls Tryz.prog 131 #[.slice (some ⟨g, off, none⟩) n cap, .slice bo n cb, .int .u64 y] w fun e w' => Quoted w w' e g off n L xs y := by
 have HH : Hid (Blk w g .u64 60 L ∧ Wd 18446744073709551616 L ∧ off + n ≤ L.length ∧ Wd 18446744073709551616 xs ∧ Apart bo n g off n) := ⟨hb, hW, hn, hxW, hap⟩
 clear hb hW hn hxW hap
 go_enter Tryz.func131, Tryz.ntmps131
 go_wp2
 go_loopw [7, 8] (fun c i wr => ∃ (k : Nat) (r : Int) (Lk : List Int), k ≤ n ∧ i = .int .i64 ((k : Int) - 1) ∧ c = .int .u64 r ∧ QuoSt 18446744073709551616 L xs y off n k r Lk ∧ Blk wr g .u64 60 Lk ∧ Touch g w wr) (fun _ i _ => (intOf i + 1).toNat)
 case atStart => exact ⟨n, 0, L, Nat.le_refl _, by go_num, rfl, QuoSt.start off n HH.out.2.1 hy, HH.out.1, Touch.refl _ _⟩
 case round =>
  obtain ⟨k, r, Lk, hk, rfl, rfl, hst, hbl, hto⟩ := hrel
  have HS : Hid (QuoSt 18446744073709551616 L xs y off n k r Lk ∧ Blk wr g .u64 60 Lk ∧ Touch g w wr) := ⟨hst, hbl, hto⟩
  rcases k with _ | k
  ·
   clear hst hbl hto hx
   go_wp2
   go_ret
   exact ⟨r, Lk, rfl, HS.out.2.1, HS.out.1, HS.out.2.2⟩
  ·
   have hxr : RowAt wr .u64 bo n cb xs := row_touch hx HH.out.1 hbl hto HH.out.2.2.2.2 (fun j hj => hst.out j (by omega)) hst.len
   obtain ⟨b', o', rfl, hb', hc'⟩ := hxr.get (by omega)
   have hcx := hc' k (by omega)
   have hcz := hbl.cell (j := off + k) (by have := hst.len; have := HH.out.2.2.1; omega)
   have hfz := hbl.frozen (off + k)
   have hgs : g < wr.heap.size := hbl.lt
   have bx := HH.out.2.2.2.1.dig (by decide) k
   obtain ⟨x, hxe⟩ : ∃ x, dig xs k = x := ⟨_, rfl⟩
   obtain ⟨z, hz⟩ : ∃ z, dig Lk (off + k) = z := ⟨_, rfl⟩
   rw [hz] at hcz
   rw [hxe] at hcx bx
   have HX : Hid (dig xs k = x) := hxe
   obtain ⟨d, r', hdiv, hd, hr, he⟩ := div64_ex r x y hst.r0 hst.r1 hy' bx.1 bx.2
   have HD : Hid ((0 ≤ d ∧ d < 18446744073709551616) ∧ (0 ≤ r' ∧ r' < y) ∧ d * y + r' = r * 18446744073709551616 + x) := ⟨hd, hr, he⟩
   have hkk : ((k + 1 : Nat) : Int) - 1 = (k : Int) := by omega
   rw [hkk]
   clear hd hr he hst hbl hto hxr hx hc' bx hxe hz hkk
   go_wp2_with (go_at_call 142; refine (hdiv _).mono ?_; rintro e w' ⟨rfl, nd, rfl⟩)
   go_roundw
   case rel => exact ⟨k, r', Lk.set (off + k) d, by omega, by go_num, rfl, HS.out.1.step (by omega) HH.out.2.2.1 HD.out.1 HD.out.2.1 (by rw [HX.out]; exact HD.out.2.2), Blk.set (w := wr.drewN nd) HS.out.2.1 _ _, (HS.out.2.2.drewN nd).set _ _⟩
   case measure => simp [intOf]
structure OffSt (q : Int) (L x : List Int) (u : Int) (off k : Nat) (c : Int) (Lk : List Int) : Prop where
 len : Lk.length = L.length
 out : ∀ j, j < off ∨ off + k ≤ j → dig Lk j = dig L j
 wd : Wd q Lk
 c0 : 0 ≤ c
 c1 : c < q
 eq : V q Lk off k + u * val q (x.take k) = V q L off k + c * q ^ k
theorem OffSt.start {q : Int} {L x : List Int} {u : Int} (off : Nat) (h : Wd q L) (hq : 0 < q) : OffSt q L x u off 0 0 L :=
 ⟨rfl, fun _ _ => rfl, h, Int.le_refl _, hq, by simp [V_zero, val]⟩
theorem OffSt.step {q : Int} {L x : List Int} {u : Int} {off k : Nat} {c : Int} {Lk : List Int} (h : OffSt q L x u off k c Lk) (hk : off + k < L.length) {d c' : Int} (hd : 0 ≤ d ∧ d < q) (hc : 0 ≤ c' ∧ c' < q)
  (he : d + dig x k * u + c = dig L (off + k) + c' * q) : OffSt q L x u off (k + 1) c' (Lk.set (off + k) d) := by
 have hl : off + k < Lk.length := by rw [h.len]; exact hk
 refine ⟨by simp [h.len], fun j hj => ?_, h.wd.set _ hd, hc.1, hc.2, ?_⟩
 ·
  rw [dig_set _ hl, if_neg (by omega)]; exact h.out j (by omega)
 ·
  have e1 : V q (Lk.set (off + k) d) off k = V q Lk off k := V_congr fun j hj => by rw [dig_set _ hl, if_neg (by omega)]
  rw [V_succ, V_succ, e1, dig_set _ hl, if_pos rfl, val_take_dig, Int.pow_succ]
  have h1 := h.eq
  have e2 : q ^ k * (d + dig x k * u + c) = q ^ k * (dig L (off + k) + c' * q) := by rw [he]
  grind
def Offed (w w' : World) (e : Ending) (g off n : Nat) (L xs : List Int) (u : Int) : Prop :=
 ∃ c L', e = .returned (.int .u64 c) ∧ Blk w' g .u64 60 L' ∧ OffSt 18446744073709551616 L xs u off n c L' ∧ Touch g w w'
theorem subTimes_any (g off n cap : Nat) (bo : Option Addr) (m cb : Nat) (L xs : List Int) (u : Int) (w : World) (hb : Blk w g .u64 60 L) (hW : Wd 18446744073709551616 L) (hn : off + n ≤ L.length) (hnc : n ≤ cap) (hcap : cap ≤ 4611686018427387904)
  (hy : RowAt w .u64 bo m cb xs) (hyW : Wd 18446744073709551616 xs) (hm : m ≤ n) (hap : Apart bo m g off n) (hu : 0 ≤ u ∧ u < 18446744073709551616) :
  Calls Tryz.prog 151 #[.slice (some ⟨g, off, none⟩) n cap, .slice bo m cb, .int .u64 u] w fun e w' => Offed w w' e g off m L xs u := by
 have HH : Hid (Blk w g .u64 60 L ∧ Wd 18446744073709551616 L ∧ off + n ≤ L.length ∧ Wd 18446744073709551616 xs ∧ Apart bo m g off n) := ⟨hb, hW, hn, hyW, hap⟩
 obtain ⟨hu1, hu2⟩ := hu
 clear hb hW hn hyW hap
 go_enter Tryz.func151, Tryz.ntmps151
 go_wp2
 go_loopw [7, 19] (fun c i wr => ∃ (k : Nat) (cv : Int) (Lk : List Int), k ≤ m ∧ i = .int .i64 k ∧ c = .int .u64 cv ∧ OffSt 18446744073709551616 L xs u off k cv Lk ∧ Blk wr g .u64 60 Lk ∧ Touch g w wr) (fun _ i _ => m - (intOf i).toNat)
 case atStart => exact ⟨0, 0, L, Nat.zero_le _, rfl, rfl, OffSt.start off HH.out.2.1 (by decide), HH.out.1, Touch.refl _ _⟩
 case round =>
  obtain ⟨k, cv, Lk, hk, rfl, rfl, hst, hbl, hto⟩ := hrel
  have HS : Hid (OffSt 18446744073709551616 L xs u off k cv Lk ∧ Blk wr g .u64 60 Lk ∧ Touch g w wr) := ⟨hst, hbl, hto⟩
  by_cases hlt : k < m
  ·
   have hyr : RowAt wr .u64 bo m cb xs := row_touch hy HH.out.1 hbl hto HH.out.2.2.2.2 (fun j hj => hst.out j (by omega)) hst.len
   obtain ⟨b', o', rfl, hb', hc'⟩ := hyr.get (by omega)
   have hcy := hc' k hlt
   have hcz := hbl.cell (j := off + k) (by have := hst.len; have := HH.out.2.2.1; omega)
   have hfz := hbl.frozen (off + k)
   have hgs : g < wr.heap.size := hbl.lt
   have bz := hst.wd.dig (by decide) (off + k)
   have bx := HH.out.2.2.2.1.dig (by decide) k
   obtain ⟨z, hz⟩ : ∃ z, dig Lk (off + k) = z := ⟨_, rfl⟩
   obtain ⟨x, hx⟩ : ∃ x, dig xs k = x := ⟨_, rfl⟩
   rw [hz] at hcz bz
   rw [hx] at hcy bx
   obtain ⟨hi, lo, hmul, hhi, hlo, hml⟩ := mul64_ex x u bx ⟨hu1, hu2⟩
   obtain ⟨d1, c1, hrun1, hd1, hc1, he1⟩ := add64_ex lo cv 0 hlo ⟨hst.c0, hst.c1⟩ (by decide) (by decide)
   obtain ⟨d2, c2, hrun2, hd2, hc2, he2⟩ := sub64_ex z d1 0 bz hd1 (by decide) (by decide)
   have HZ : Hid (dig Lk (off + k) = z ∧ dig xs k = x) := ⟨hz, hx⟩
   have htot : x * u ≤ 18446744073709551615 * 18446744073709551615 := Int.mul_le_mul (by omega) (by omega) hu1 (by decide)
   have s1 : hi + c1 ≤ 18446744073709551615 := by omega
   have s2 : hi + c1 + c2 ≤ 18446744073709551615 := by have := hst.c1; omega
   have s0 : 0 ≤ hi + c1 := by omega
   have s3 : 0 ≤ hi + c1 + c2 := by omega
   have HD : Hid ((0 ≤ d2 ∧ d2 < 18446744073709551616) ∧ (0 ≤ hi + c1 + c2 ∧ hi + c1 + c2 < 18446744073709551616) ∧ d2 + x * u + cv = z + (hi + c1 + c2) * 18446744073709551616) := ⟨hd2, by omega, by omega⟩
   obtain ⟨hhi1, hhi2⟩ := hhi
   obtain ⟨hc11, hc12⟩ := hc1
   obtain ⟨hc21, hc22⟩ := hc2
   clear hd1 hd2 he1 he2 hml hst hbl hto hyr hy hc' hlo bx bz hz hx htot
   go_wp2_with (first | simp only [hrun1] | simp only [hrun2] | (go_at_call 136; refine (hmul _).mono ?_; rintro e w' ⟨rfl, rfl⟩))
   go_roundw
   case rel => exact ⟨k + 1, hi + c1 + c2, Lk.set (off + k) d2, by omega, by go_num, by go_num, HS.out.1.step (by have := HH.out.2.2.1; omega) HD.out.1 HD.out.2.1 (by have := HD.out.2.2; rw [← HZ.out.1, ← HZ.out.2, HS.out.1.out (off + k) (by omega)] at this; exact this), HS.out.2.1.set _ _, HS.out.2.2.set _ _⟩
   case measure => simp [intOf]; omega
  ·
   obtain rfl : k = m := by omega
   clear hst hbl hto hy
   go_wp2
   go_ret
   exact ⟨cv, Lk, rfl, HS.out.2.1, HS.out.1, HS.out.2.2⟩
theorem pow_pair {s : Nat} (hs : s < 64) : ∃ P R : Nat, 2 ^ s = P ∧ 2 ^ (64 - s) = R ∧ 0 < P ∧ 0 < R ∧ P * R = 18446744073709551616 ∧ ((2 : Int) ^ s = P) ∧ ((2 : Int) ^ (64 - s) = R) :=
 ⟨_, _, rfl, rfl, Nat.two_pow_pos _, Nat.two_pow_pos _, by rw [← Nat.pow_add, show s + (64 - s) = 64 by omega], by rw [Int.natCast_pow]; rfl, by rw [Int.natCast_pow]; rfl⟩
theorem or_low {a b s P : Nat} (hP : 2 ^ s = P) (hb : b < P) : (a * P) ||| b = a * P + b := by
 have := Nat.shiftLeft_add_eq_or_of_lt (i := s) (b := b) (by rw [hP]; exact hb) a
 rw [Nat.shiftLeft_eq, hP] at this
 exact this.symm
theorem up_ex (x : Int) (s : Nat) (o : Int) (hs : s < 64) (hx : 0 ≤ x ∧ x < 18446744073709551616) (ho : 0 ≤ o ∧ o < 2 ^ s) :
  ∃ d c : Int, bits .or .u64 (IntKind.u64.wrap (x * 2 ^ s)) o = d ∧ x / 2 ^ (64 - s) = c ∧ (0 ≤ d ∧ d < 18446744073709551616) ∧ (0 ≤ c ∧ c < 2 ^ s) ∧ d + c * 18446744073709551616 = x * 2 ^ s + o := by
 obtain ⟨P, R, hP, hR, hP0, hR0, hPR, hPi, hRi⟩ := pow_pair hs
 obtain ⟨x, rfl⟩ := Int.eq_ofNat_of_zero_le hx.1
 obtain ⟨o, rfl⟩ := Int.eq_ofNat_of_zero_le ho.1
 rw [hPi] at ho ⊢
 rw [hRi]
 have h1 := Nat.div_add_mod x R
 have h2 : x % R < R := Nat.mod_lt _ hR0
 obtain ⟨c, hc⟩ : ∃ c, x / R = c := ⟨_, rfl⟩
 obtain ⟨t, ht⟩ : ∃ t, x % R = t := ⟨_, rfl⟩
 rw [hc, ht] at h1
 rw [ht] at h2
 have hcP : c < P := by rw [← hc, Nat.div_lt_iff_lt_mul hR0, hPR]; omega
 have hxP : x * P = c * 18446744073709551616 + t * P := by rw [← h1, ← hPR]; grind
 have htP : t * P + P ≤ 18446744073709551616 := by
  have : (t + 1) * P ≤ R * P := Nat.mul_le_mul_right P h2
  rw [Nat.add_mul, Nat.mul_comm R P, hPR] at this; omega
 refine ⟨((t * P + o : Nat) : Int), (c : Int), ?_, ?_, by omega, by omega, ?_⟩
 ·
  rw [← Int.natCast_mul, hxP, IntKind.wrap_u64]
  have e : ((c * 18446744073709551616 + t * P : Nat) : Int) % 18446744073709551616 = ((t * P : Nat) : Int) := by omega
  rw [e, bits_or_u64_nat _ _ (by omega) (by omega), or_low hP (by omega)]
 ·
  rw [← hc, Int.natCast_ediv]
 ·
  rw [← Int.natCast_mul, hxP]; omega
theorem down_ex (x : Int) (s : Nat) (o : Int) (hs : s < 64) (hx : 0 ≤ x ∧ x < 18446744073709551616) (ho : 0 ≤ o ∧ o < 2 ^ s) :
  ∃ d t : Int, bits .or .u64 (x / 2 ^ s) (o * 2 ^ (64 - s)) = d ∧ IntKind.u64.wrap (x * 2 ^ (64 - s)) = t * 2 ^ (64 - s) ∧ (0 ≤ d ∧ d < 18446744073709551616) ∧ (0 ≤ t ∧ t < 2 ^ s) ∧ d * 2 ^ s + t = o * 18446744073709551616 + x := by
 obtain ⟨P, R, hP, hR, hP0, hR0, hPR, hPi, hRi⟩ := pow_pair hs
 obtain ⟨x, rfl⟩ := Int.eq_ofNat_of_zero_le hx.1
 obtain ⟨o, rfl⟩ := Int.eq_ofNat_of_zero_le ho.1
 rw [hPi] at ho ⊢
 rw [hRi]
 have h1 := Nat.div_add_mod x P
 have h2 : x % P < P := Nat.mod_lt _ hP0
 obtain ⟨c, hc⟩ : ∃ c, x / P = c := ⟨_, rfl⟩
 obtain ⟨t, ht⟩ : ∃ t, x % P = t := ⟨_, rfl⟩
 rw [hc, ht] at h1
 rw [ht] at h2
 have hcR : c < R := by rw [← hc, Nat.div_lt_iff_lt_mul hP0, Nat.mul_comm, hPR]; omega
 have hxR : x * R = c * 18446744073709551616 + t * R := by rw [← h1, ← hPR]; grind
 have htR : t * R + R ≤ 18446744073709551616 := by
  have : (t + 1) * R ≤ P * R := Nat.mul_le_mul_right R h2
  rw [Nat.add_mul, hPR] at this; omega
 have hoR : o * R + R ≤ 18446744073709551616 := by
  have : (o + 1) * R ≤ P * R := Nat.mul_le_mul_right R (by omega)
  rw [Nat.add_mul, hPR] at this; omega
 refine ⟨((o * R + c : Nat) : Int), (t : Int), ?_, ?_, by omega, by omega, ?_⟩
 ·
  have e : ((x : Int) / (P : Int)) = ((c : Nat) : Int) := by rw [← hc, Int.natCast_ediv]
  rw [← Int.natCast_mul, e, bits_or_u64_nat _ _ (by omega) (by omega), Nat.or_comm, or_low hR hcR]
 ·
  rw [← Int.natCast_mul, hxR, IntKind.wrap_u64, ← Int.natCast_mul]; omega
 ·
  have e : (o * R + c) * P = o * 18446744073709551616 + c * P := by rw [← hPR]; grind
  have e2 : c * P + t = x := by rw [Nat.mul_comm]; exact h1
  rw [← Int.natCast_mul, e]; omega
structure UpSt (q : Int) (L x : List Int) (P : Int) (off k : Nat) (c : Int) (Lk : List Int) : Prop where
 len : Lk.length = L.length
 out : ∀ j, j < off ∨ off + k ≤ j → dig Lk j = dig L j
 wd : Wd q Lk
 c0 : 0 ≤ c
 c1 : c < P
 eq : V q Lk off k + c * q ^ k = P * val q (x.take k)
theorem UpSt.start {q : Int} {L x : List Int} {P : Int} (off : Nat) (h : Wd q L) (hq : 0 < P) : UpSt q L x P off 0 0 L :=
 ⟨rfl, fun _ _ => rfl, h, Int.le_refl _, hq, by simp [V_zero, val]⟩
theorem UpSt.step {q : Int} {L x : List Int} {P : Int} {off k : Nat} {c : Int} {Lk : List Int} (h : UpSt q L x P off k c Lk) (hk : off + k < L.length) {d c' : Int} (hd : 0 ≤ d ∧ d < q) (hc : 0 ≤ c' ∧ c' < P)
  (he : d + c' * q = dig x k * P + c) : UpSt q L x P off (k + 1) c' (Lk.set (off + k) d) := by
 have hl : off + k < Lk.length := by rw [h.len]; exact hk
 refine ⟨by simp [h.len], fun j hj => ?_, h.wd.set _ hd, hc.1, hc.2, ?_⟩
 ·
  rw [dig_set _ hl, if_neg (by omega)]; exact h.out j (by omega)
 ·
  have e1 : V q (Lk.set (off + k) d) off k = V q Lk off k := V_congr fun j hj => by rw [dig_set _ hl, if_neg (by omega)]
  rw [V_succ, e1, dig_set _ hl, if_pos rfl, val_take_dig, Int.pow_succ]
  have h1 := h.eq
  have e2 : q ^ k * (d + c' * q) = q ^ k * (dig x k * P + c) := by rw [he]
  grind
def Upped (w w' : World) (e : Ending) (g off n : Nat) (L xs : List Int) (P : Int) : Prop :=
 ∃ c L', e = .returned (.int .u64 c) ∧ Blk w' g .u64 60 L' ∧ UpSt 18446744073709551616 L xs P off n c L' ∧ Touch g w w'
theorem upBits_any (g off n cap : Nat) (bo : Option Addr) (m cb : Nat) (L xs : List Int) (s : Nat) (w : World) (hs : s < 64) (hb : Blk w g .u64 60 L) (hW : Wd 18446744073709551616 L) (hn : off + n ≤ L.length) (hnc : n ≤ cap) (hcap : cap ≤ 4611686018427387904)
  (hy : RowAt w .u64 bo m cb xs) (hyW : Wd 18446744073709551616 xs) (hm : m ≤ n) (hap : Apart bo m g off n) :
  Calls Tryz.prog 143 #[.slice (some ⟨g, off, none⟩) n cap, .slice bo m cb, .int .u64 (s : Int)] w fun e w' => Upped w w' e g off m L xs (2 ^ s) := by
 have HH : Hid (Blk w g .u64 60 L ∧ Wd 18446744073709551616 L ∧ off + n ≤ L.length ∧ Wd 18446744073709551616 xs ∧ Apart bo m g off n) := ⟨hb, hW, hn, hyW, hap⟩
 clear hb hW hn hyW hap
 go_enter Tryz.func143, Tryz.ntmps143
 go_wp2
 go_loopw [7, 12] (fun c i wr => ∃ (k : Nat) (cv : Int) (Lk : List Int), k ≤ m ∧ i = .int .i64 k ∧ c = .int .u64 cv ∧ UpSt 18446744073709551616 L xs (2 ^ s) off k cv Lk ∧ Blk wr g .u64 60 Lk ∧ Touch g w wr) (fun _ i _ => m - (intOf i).toNat)
 case atStart => exact ⟨0, 0, L, Nat.zero_le _, rfl, rfl, UpSt.start off HH.out.2.1 (Int.pow_pos (by decide)), HH.out.1, Touch.refl _ _⟩
 case round =>
  obtain ⟨k, cv, Lk, hk, rfl, rfl, hst, hbl, hto⟩ := hrel
  have HS : Hid (UpSt 18446744073709551616 L xs (2 ^ s) off k cv Lk ∧ Blk wr g .u64 60 Lk ∧ Touch g w wr) := ⟨hst, hbl, hto⟩
  by_cases hlt : k < m
  ·
   have hyr : RowAt wr .u64 bo m cb xs := row_touch hy HH.out.1 hbl hto HH.out.2.2.2.2 (fun j hj => hst.out j (by omega)) hst.len
   obtain ⟨b', o', rfl, hb', hc'⟩ := hyr.get (by omega)
   have hcy := hc' k hlt
   have hcz := hbl.cell (j := off + k) (by have := hst.len; have := HH.out.2.2.1; omega)
   have hfz := hbl.frozen (off + k)
   have hgs : g < wr.heap.size := hbl.lt
   have bx := HH.out.2.2.2.1.dig (by decide) k
   obtain ⟨z, hz⟩ : ∃ z, dig Lk (off + k) = z := ⟨_, rfl⟩
   obtain ⟨x, hx⟩ : ∃ x, dig xs k = x := ⟨_, rfl⟩
   rw [hz] at hcz
   rw [hx] at hcy bx
   obtain ⟨d, c, hd, hc, hd1, hc1, he⟩ := up_ex x s cv hs bx ⟨hst.c0, hst.c1⟩
   have HZ : Hid (dig xs k = x) := hx
   have HD : Hid ((0 ≤ d ∧ d < 18446744073709551616) ∧ (0 ≤ c ∧ c < 2 ^ s) ∧ d + c * 18446744073709551616 = x * 2 ^ s + cv) := ⟨hd1, hc1, he⟩
   clear hd1 hc1 he hst hbl hto hyr hy hc' bx hz hx
   go_wp2
   go_roundw
   case rel => exact ⟨k + 1, c, Lk.set (off + k) d, by omega, by go_num, by go_num, HS.out.1.step (by have := HH.out.2.2.1; omega) HD.out.1 HD.out.2.1 (by rw [HZ.out]; exact HD.out.2.2), HS.out.2.1.set _ _, HS.out.2.2.set _ _⟩
   case measure => simp [intOf]; omega
  ·
   obtain rfl : k = m := by omega
   clear hst hbl hto hy
   go_wp2
   go_ret
   exact ⟨cv, Lk, rfl, HS.out.2.1, HS.out.1, HS.out.2.2⟩
def Downed (w w' : World) (e : Ending) (g off n : Nat) (L xs : List Int) (P : Int) : Prop :=
 ∃ r L', e = .returned (.tuple #[]) ∧ Blk w' g .u64 60 L' ∧ QuoSt 18446744073709551616 L xs P off n 0 r L' ∧ Touch g w w'
theorem downBits_any (g off n cap : Nat) (bo : Option Addr) (cb : Nat) (L xs : List Int) (s : Nat) (w : World) (hs : s < 64) (hb : Blk w g .u64 60 L) (hW : Wd 18446744073709551616 L) (hn : off + n ≤ L.length) (hnc : n ≤ cap) (hcap : cap ≤ 4611686018427387904)
  (hx : RowAt w .u64 bo n cb xs) (hxW : Wd 18446744073709551616 xs) (hap : Apart bo n g off n) :
  Calls Tryz.prog 145 #[.slice (some ⟨g, off, none⟩) n cap, .slice bo n cb, .int .u64 (s : Int)] w fun e w' => Downed w w' e g off n L xs (2 ^ s) := by
 have HH : Hid (Blk w g .u64 60 L ∧ Wd 18446744073709551616 L ∧ off + n ≤ L.length ∧ Wd 18446744073709551616 xs ∧ Apart bo n g off n) := ⟨hb, hW, hn, hxW, hap⟩
 clear hb hW hn hxW hap
 go_enter Tryz.func145, Tryz.ntmps145
 go_wp2
 go_loopw [6, 7] (fun c i wr => ∃ (k : Nat) (r : Int) (Lk : List Int), k ≤ n ∧ i = .int .i64 ((k : Int) - 1) ∧ c = .int .u64 (r * 2 ^ (64 - s)) ∧ QuoSt 18446744073709551616 L xs (2 ^ s) off n k r Lk ∧ Blk wr g .u64 60 Lk ∧ Touch g w wr) (fun _ i _ => (intOf i + 1).toNat)
 case atStart => exact ⟨n, 0, L, Nat.le_refl _, by go_num, by rw [Int.zero_mul], QuoSt.start off n HH.out.2.1 (Int.pow_pos (by decide)), HH.out.1, Touch.refl _ _⟩
 case round =>
  obtain ⟨k, r, Lk, hk, rfl, rfl, hst, hbl, hto⟩ := hrel
  have HS : Hid (QuoSt 18446744073709551616 L xs (2 ^ s) off n k r Lk ∧ Blk wr g .u64 60 Lk ∧ Touch g w wr) := ⟨hst, hbl, hto⟩
  rcases k with _ | k
  ·
   clear hst hbl hto hx
   go_wp2
   go_end0
   exact ⟨r, Lk, rfl, HS.out.2.1, HS.out.1, HS.out.2.2⟩
  ·
   have hxr : RowAt wr .u64 bo n cb xs := row_touch hx HH.out.1 hbl hto HH.out.2.2.2.2 (fun j hj => hst.out j (by omega)) hst.len
   obtain ⟨b', o', rfl, hb', hc'⟩ := hxr.get (by omega)
   have hcx := hc' k (by omega)
   have hcz := hbl.cell (j := off + k) (by have := hst.len; have := HH.out.2.2.1; omega)
   have hfz := hbl.frozen (off + k)
   have hgs : g < wr.heap.size := hbl.lt
   have bx := HH.out.2.2.2.1.dig (by decide) k
   obtain ⟨x, hxe⟩ : ∃ x, dig xs k = x := ⟨_, rfl⟩
   obtain ⟨z, hz⟩ : ∃ z, dig Lk (off + k) = z := ⟨_, rfl⟩
   rw [hz] at hcz
   rw [hxe] at hcx bx
   have HX : Hid (dig xs k = x) := hxe
   obtain ⟨d, t, hd, ht, hd1, ht1, he⟩ := down_ex x s r hs bx ⟨hst.r0, hst.r1⟩
   have HD : Hid ((0 ≤ d ∧ d < 18446744073709551616) ∧ (0 ≤ t ∧ t < 2 ^ s) ∧ d * 2 ^ s + t = r * 18446744073709551616 + x) := ⟨hd1, ht1, he⟩
   have hkk : ((k + 1 : Nat) : Int) - 1 = (k : Int) := by omega
   rw [hkk]
   clear hd1 ht1 he hst hbl hto hxr hx hc' bx hxe hz hkk
   obtain ⟨tt, htt⟩ : ∃ tt, t * 2 ^ (64 - s) = tt := ⟨_, rfl⟩
   have HT : Hid (t * 2 ^ (64 - s) = tt) := htt
   obtain ⟨rr, hrr⟩ : ∃ rr, r * 2 ^ (64 - s) = rr := ⟨_, rfl⟩
   rw [hrr] at hd ⊢
   rw [htt] at ht
   clear htt hrr
   go_wp2
   go_roundw
   case rel => exact ⟨k, t, Lk.set (off + k) d, by omega, by go_num, by rw [HT.out], HS.out.1.step (by omega) HH.out.2.2.1 HD.out.1 HD.out.2.1 (by rw [HX.out]; exact HD.out.2.2), Blk.set HS.out.2.1 _ _, HS.out.2.2.set _ _⟩
   case measure => simp [intOf]
def IsGuess (u2 u1 u0 v1 v0 g : Int) : Prop := 0 ≤ g ∧ g < 18446744073709551616 ∧ g * (v1 * 18446744073709551616 + v0) ≤ (u2 * 18446744073709551616 + u1) * 18446744073709551616 + u0 ∧ ((u2 * 18446744073709551616 + u1) * 18446744073709551616 + u0 < (g + 1) * (v1 * 18446744073709551616 + v0) ∨ g = 18446744073709551615)
structure GSt (u2 u1 u0 v1 v0 g r : Int) : Prop where
 eq : g * v1 + r = u2 * 18446744073709551616 + u1
 r0 : 0 ≤ r
 r1 : r < 18446744073709551616
 g0 : 0 ≤ g
 g1 : g < 18446744073709551616
 up : (u2 * 18446744073709551616 + u1) * 18446744073709551616 + u0 < (g + 1) * (v1 * 18446744073709551616 + v0) ∨ g = 18446744073709551615
theorem GSt.done {u2 u1 u0 v1 v0 g r hi lo : Int} (h : GSt u2 u1 u0 v1 v0 g r) (hm : hi * 18446744073709551616 + lo = g * v0) (l0 : 0 ≤ lo) (l1 : lo < 18446744073709551616) (k0 : 0 ≤ u0) (k1 : u0 < 18446744073709551616) (ht : hi < r ∨ hi = r ∧ lo ≤ u0) : IsGuess u2 u1 u0 v1 v0 g := by
 refine ⟨h.g0, h.g1, ?_, h.up⟩
 have e : g * (v1 * 18446744073709551616 + v0) = (g * v1) * 18446744073709551616 + g * v0 := by grind
 have := h.eq
 rw [e, ← hm]; omega
theorem GSt.less {u2 u1 u0 v1 v0 g r hi lo : Int} (h : GSt u2 u1 u0 v1 v0 g r) (hm : hi * 18446744073709551616 + lo = g * v0) (l0 : 0 ≤ lo) (l1 : lo < 18446744073709551616) (k0 : 0 ≤ u0) (k1 : u0 < 18446744073709551616) (h1 : ¬ hi < r) (h2 : ¬ (hi = r ∧ lo ≤ u0)) :
  1 ≤ g ∧ (u2 * 18446744073709551616 + u1) * 18446744073709551616 + u0 < (g - 1 + 1) * (v1 * 18446744073709551616 + v0) ∧ (g - 1) * v1 + (r + v1) = u2 * 18446744073709551616 + u1 := by
 have e : g * (v1 * 18446744073709551616 + v0) = (g * v1) * 18446744073709551616 + g * v0 := by grind
 have h3 := h.eq
 have h4 : (u2 * 18446744073709551616 + u1) * 18446744073709551616 + u0 < g * (v1 * 18446744073709551616 + v0) := by rw [e, ← hm]; omega
 refine ⟨?_, by rw [Int.sub_add_cancel]; exact h4, by rw [Int.sub_mul]; omega⟩
 by_cases hg : g = 0
 ·
  subst hg
  rw [Int.zero_mul] at h3 hm
  have := h.r0
  omega
 ·
  have := h.g0; omega
theorem GSt.next {u2 u1 u0 v1 v0 g r d : Int} (h : GSt u2 u1 u0 v1 v0 g r) (hl : 1 ≤ g ∧ (u2 * 18446744073709551616 + u1) * 18446744073709551616 + u0 < (g - 1 + 1) * (v1 * 18446744073709551616 + v0) ∧ (g - 1) * v1 + (r + v1) = u2 * 18446744073709551616 + u1) (hd : d = r + v1) (hb : 0 ≤ d ∧ d < 18446744073709551616) : GSt u2 u1 u0 v1 v0 (g - 1) d := by
 have := h.g1
 exact ⟨by rw [hd]; exact hl.2.2, hb.1, hb.2, by omega, by omega, Or.inl hl.2.1⟩
theorem GSt.over {u2 u1 u0 v1 v0 g r : Int} (h : GSt u2 u1 u0 v1 v0 g r) (hl : 1 ≤ g ∧ (u2 * 18446744073709551616 + u1) * 18446744073709551616 + u0 < (g - 1 + 1) * (v1 * 18446744073709551616 + v0) ∧ (g - 1) * v1 + (r + v1) = u2 * 18446744073709551616 + u1) (ho : 18446744073709551616 ≤ r + v1) (k0 : 0 ≤ u0) (k1 : 0 ≤ v0) (k2 : v0 < 18446744073709551616) : IsGuess u2 u1 u0 v1 v0 (g - 1) := by
 have h1 := h.g1
 refine ⟨by omega, by omega, ?_, Or.inl hl.2.1⟩
 have e : (g - 1) * (v1 * 18446744073709551616 + v0) = ((g - 1) * v1) * 18446744073709551616 + (g - 1) * v0 := by grind
 have e2 : (g - 1) * v0 ≤ 18446744073709551615 * 18446744073709551615 := Int.mul_le_mul (by omega) (by omega) k1 (by decide)
 have e3 := hl.2.2
 rw [e]; omega
theorem GSt.first {u2 u1 u0 v1 v0 d r : Int} (he : d * v1 + r = u2 * 18446744073709551616 + u1) (hd : 0 ≤ d ∧ d < 18446744073709551616) (hr : 0 ≤ r ∧ r < v1) (hv : v1 < 18446744073709551616) (k0 : u0 < 18446744073709551616) (k1 : 0 ≤ v0) : GSt u2 u1 u0 v1 v0 d r := by
 refine ⟨he, hr.1, by omega, hd.1, hd.2, Or.inl ?_⟩
 have e : (d + 1) * (v1 * 18446744073709551616 + v0) = (d * v1 + v1) * 18446744073709551616 + (d + 1) * v0 := by grind
 have e2 : 0 ≤ (d + 1) * v0 := Int.mul_nonneg (by omega) k1
 rw [e]; omega
theorem IsGuess.top {u1 u0 v1 v0 : Int} (ho : 18446744073709551616 ≤ u1 + v1) (k0 : 0 ≤ u0) (k1 : 0 ≤ v0) (k2 : v0 < 18446744073709551616) : IsGuess v1 u1 u0 v1 v0 18446744073709551615 := by
 refine ⟨by decide, by decide, ?_, Or.inr rfl⟩
 omega
theorem GSt.second {u1 u0 v1 v0 r : Int} (hr : r = u1 + v1) (h0 : 0 ≤ r) (h1 : r < 18446744073709551616) : GSt v1 u1 u0 v1 v0 18446744073709551615 r :=
 ⟨by omega, h0, h1, by decide, by decide, Or.inr rfl⟩
theorem IsGuess.one {u2 u1 u0 v1 v0 g g' : Int} (hv : 0 < v1) (hv0 : 0 ≤ v0) (h : IsGuess u2 u1 u0 v1 v0 g) (h' : IsGuess u2 u1 u0 v1 v0 g') : g = g' := by
 obtain ⟨a1, a2, a3, a4⟩ := h
 obtain ⟨b1, b2, b3, b4⟩ := h'
 have hD : 0 < v1 * 18446744073709551616 + v0 := by omega
 obtain ⟨D, hDe⟩ : ∃ D, v1 * 18446744073709551616 + v0 = D := ⟨_, rfl⟩
 obtain ⟨U, hU⟩ : ∃ U, (u2 * 18446744073709551616 + u1) * 18446744073709551616 + u0 = U := ⟨_, rfl⟩
 rw [hDe] at hD a3 a4 b3 b4; rw [hU] at a3 a4 b3 b4
 have c1 : g ≤ g' := by
  rcases b4 with h | h
  ·
   have : g * D < (g' + 1) * D := Int.lt_of_le_of_lt a3 h
   have := Int.lt_of_mul_lt_mul_right this (by omega)
   omega
  ·
   omega
 have c2 : g' ≤ g := by
  rcases a4 with h | h
  ·
   have : g' * D < (g + 1) * D := Int.lt_of_le_of_lt b3 h
   have := Int.lt_of_mul_lt_mul_right this (by omega)
   omega
  ·
   omega
 omega
theorem guess_any (u2 u1 u0 v1 v0 : Int) (w : World) (k1 : 0 ≤ u2) (k2 : u2 ≤ v1) (k3 : 0 ≤ u1) (k4 : u1 < 18446744073709551616) (k5 : 0 ≤ u0) (k6 : u0 < 18446744073709551616) (k7 : 0 ≤ v1) (k8 : v1 < 18446744073709551616) (k9 : 0 ≤ v0) (k10 : v0 < 18446744073709551616) (kv : 0 < v1) :
  Calls Tryz.prog 150 #[.int .u64 u2, .int .u64 u1, .int .u64 u0, .int .u64 v1, .int .u64 v0] w fun e w' => ∃ g, e = .returned (.int .u64 g) ∧ IsGuess u2 u1 u0 v1 v0 g ∧ ∃ n, w' = w.drewN n := by
 by_cases hlt : u2 < v1
 ·
  obtain ⟨d0, r0, hdiv, hd0, hr0, he0⟩ := div64_ex u2 u1 v1 k1 hlt k8 k3 k4
  have HG : Hid (GSt u2 u1 u0 v1 v0 d0 r0) := GSt.first he0 hd0 hr0 k8 k6 k9
  clear he0 hd0 hr0
  go_enter Tryz.func150, Tryz.ntmps150
  go_wp2_with (go_at_call 142; refine (hdiv _).mono ?_; rintro e w' ⟨rfl, nd, rfl⟩)
  go_loop [11, 12] (fun a b => ∃ x r : Int, a = .int .u64 x ∧ b = .int .u64 r ∧ GSt u2 u1 u0 v1 v0 x r) (fun a _ => (intOf a).toNat)
  case atStart => exact ⟨d0, r0, rfl, rfl, HG.out⟩
  case round =>
   obtain ⟨x, r, rfl, rfl, hs⟩ := hrel
   have HS : Hid (GSt u2 u1 u0 v1 v0 x r) := hs
   obtain ⟨hi, lo, hmul, hhi, hlo, hml⟩ := mul64_ex x v0 ⟨hs.g0, hs.g1⟩ ⟨k9, k10⟩
   obtain ⟨d, c, hrun, hd, hc, he⟩ := add64_ex r v1 0 ⟨hs.r0, hs.r1⟩ ⟨k7, k8⟩ (by decide) (by decide)
   have HM : Hid (hi * 18446744073709551616 + lo = x * v0 ∧ (0 ≤ lo ∧ lo < 18446744073709551616)) := ⟨hml, hlo⟩
   have b1 := hs.g0
   have b2 := hs.g1
   clear hml hs hlo hhi
   by_cases h1 : hi < r
   ·
    have HG := HS.out.done HM.out.1 HM.out.2.1 HM.out.2.2 k5 k6 (Or.inl h1)
    have HG2 : Hid (IsGuess u2 u1 u0 v1 v0 x) := HG
    clear HG he
    go_wp2_with (go_at_call 136; refine (hmul _).mono ?_; rintro e w' ⟨rfl, rfl⟩)
    go_ret
    exact ⟨_, rfl, HG2.out, nd, rfl⟩
   ·
    by_cases h2 : hi = r ∧ lo ≤ u0
    ·
     obtain ⟨rfl, h3⟩ := h2
     have HG2 : Hid (IsGuess u2 u1 u0 v1 v0 x) := HS.out.done HM.out.1 HM.out.2.1 HM.out.2.2 k5 k6 (Or.inr ⟨rfl, h3⟩)
     have h4 : (hi == hi) = true := by simp
     clear he
     go_wp2_with (go_at_call 136; refine (hmul _).mono ?_; rintro e w' ⟨rfl, rfl⟩)
     go_ret
     exact ⟨_, rfl, HG2.out, nd, rfl⟩
    ·
     have HL := HS.out.less HM.out.1 HM.out.2.1 HM.out.2.2 k5 k6 h1 h2
     have b3 : 1 ≤ x := HL.1
     have HE : Hid (d + 1 * (c * 18446744073709551616) = r + 1 * (v1 + 0) ∧ (0 ≤ d ∧ d < 18446744073709551616)) := ⟨he, hd⟩
     clear he hd
     rcases (show c = 0 ∨ c = 1 by omega) with rfl | rfl
     ·
      have HN : Hid (GSt u2 u1 u0 v1 v0 (x - 1) d) := HS.out.next HL (by have := HE.out.1; omega) HE.out.2
      clear HL hc
      by_cases h3 : hi = r
      ·
       subst h3
       have h4 : ¬ lo ≤ u0 := fun h => h2 ⟨rfl, h⟩
       have h5 : (hi == hi) = true := by simp
       clear h2
       go_wp2_with (first | simp only [hrun] | (go_at_call 136; refine (hmul _).mono ?_; rintro e w' ⟨rfl, rfl⟩))
       go_round
       case rel => exact ⟨x - 1, d, by go_num, by go_num, HN.out⟩
       case measure => simp [intOf]; omega
      ·
       have h5 : (hi == r) = false := by simpa using h3
       clear h2
       go_wp2_with (first | simp only [hrun] | (go_at_call 136; refine (hmul _).mono ?_; rintro e w' ⟨rfl, rfl⟩))
       go_round
       case rel => exact ⟨x - 1, d, by go_num, by go_num, HN.out⟩
       case measure => simp [intOf]; omega
     ·
      have HN : Hid (IsGuess u2 u1 u0 v1 v0 (x - 1)) := HS.out.over HL (by have := HE.out.1; have := HE.out.2; omega) k5 k9 k10
      clear HL hc
      by_cases h3 : hi = r
      ·
       subst h3
       have h4 : ¬ lo ≤ u0 := fun h => h2 ⟨rfl, h⟩
       have h5 : (hi == hi) = true := by simp
       clear h2
       go_wp2_with (first | simp only [hrun] | (go_at_call 136; refine (hmul _).mono ?_; rintro e w' ⟨rfl, rfl⟩))
       go_ret
       exact ⟨_, rfl, HN.out, nd, rfl⟩
      ·
       have h5 : (hi == r) = false := by simpa using h3
       clear h2
       go_wp2_with (first | simp only [hrun] | (go_at_call 136; refine (hmul _).mono ?_; rintro e w' ⟨rfl, rfl⟩))
       go_ret
       exact ⟨_, rfl, HN.out, nd, rfl⟩
 ·
  obtain rfl : u2 = v1 := by omega
  obtain ⟨d1, c1, hrun1, hd1, hc1, he1⟩ := add64_ex u1 u2 0 ⟨k3, k4⟩ ⟨k7, k8⟩ (by decide) (by decide)
  rcases (show c1 = 0 ∨ c1 = 1 by omega) with rfl | rfl
  ·
   have HG : Hid (GSt u2 u1 u0 u2 v0 18446744073709551615 d1) := GSt.second (by omega) hd1.1 hd1.2
   clear he1 hd1 hc1
   go_enter Tryz.func150, Tryz.ntmps150
   go_wp2_with (simp only [hrun1])
   go_loop [11, 12] (fun a b => ∃ x r : Int, a = .int .u64 x ∧ b = .int .u64 r ∧ GSt u2 u1 u0 u2 v0 x r) (fun a _ => (intOf a).toNat)
   case atStart => exact ⟨18446744073709551615, d1, rfl, rfl, HG.out⟩
   case round =>
    obtain ⟨x, r, rfl, rfl, hs⟩ := hrel
    have HS : Hid (GSt u2 u1 u0 u2 v0 x r) := hs
    obtain ⟨hi, lo, hmul, hhi, hlo, hml⟩ := mul64_ex x v0 ⟨hs.g0, hs.g1⟩ ⟨k9, k10⟩
    obtain ⟨d, c, hrun, hd, hc, he⟩ := add64_ex r u2 0 ⟨hs.r0, hs.r1⟩ ⟨k7, k8⟩ (by decide) (by decide)
    have HM : Hid (hi * 18446744073709551616 + lo = x * v0 ∧ (0 ≤ lo ∧ lo < 18446744073709551616)) := ⟨hml, hlo⟩
    have b1 := hs.g0
    have b2 := hs.g1
    clear hml hs hlo hhi
    by_cases h1 : hi < r
    ·
     have HG := HS.out.done HM.out.1 HM.out.2.1 HM.out.2.2 k5 k6 (Or.inl h1)
     have HG2 : Hid (IsGuess u2 u1 u0 u2 v0 x) := HG
     clear HG he
     go_wp2_with (go_at_call 136; refine (hmul _).mono ?_; rintro e w' ⟨rfl, rfl⟩)
     go_ret
     exact ⟨_, rfl, HG2.out, 0, rfl⟩
    ·
     by_cases h2 : hi = r ∧ lo ≤ u0
     ·
      obtain ⟨rfl, h3⟩ := h2
      have HG2 : Hid (IsGuess u2 u1 u0 u2 v0 x) := HS.out.done HM.out.1 HM.out.2.1 HM.out.2.2 k5 k6 (Or.inr ⟨rfl, h3⟩)
      have h4 : (hi == hi) = true := by simp
      clear he
      go_wp2_with (go_at_call 136; refine (hmul _).mono ?_; rintro e w' ⟨rfl, rfl⟩)
      go_ret
      exact ⟨_, rfl, HG2.out, 0, rfl⟩
     ·
      have HL := HS.out.less HM.out.1 HM.out.2.1 HM.out.2.2 k5 k6 h1 h2
      have b3 : 1 ≤ x := HL.1
      have HE : Hid (d + 1 * (c * 18446744073709551616) = r + 1 * (u2 + 0) ∧ (0 ≤ d ∧ d < 18446744073709551616)) := ⟨he, hd⟩
      clear he hd
      rcases (show c = 0 ∨ c = 1 by omega) with rfl | rfl
      ·
       have HN : Hid (GSt u2 u1 u0 u2 v0 (x - 1) d) := HS.out.next HL (by have := HE.out.1; omega) HE.out.2
       clear HL hc
       by_cases h3 : hi = r
       ·
        subst h3
        have h4 : ¬ lo ≤ u0 := fun h => h2 ⟨rfl, h⟩
        have h5 : (hi == hi) = true := by simp
        clear h2
        go_wp2_with (first | simp only [hrun] | (go_at_call 136; refine (hmul _).mono ?_; rintro e w' ⟨rfl, rfl⟩))
        go_round
        case rel => exact ⟨x - 1, d, by go_num, by go_num, HN.out⟩
        case measure => simp [intOf]; omega
       ·
        have h5 : (hi == r) = false := by simpa using h3
        clear h2
        go_wp2_with (first | simp only [hrun] | (go_at_call 136; refine (hmul _).mono ?_; rintro e w' ⟨rfl, rfl⟩))
        go_round
        case rel => exact ⟨x - 1, d, by go_num, by go_num, HN.out⟩
        case measure => simp [intOf]; omega
      ·
       have HN : Hid (IsGuess u2 u1 u0 u2 v0 (x - 1)) := HS.out.over HL (by have := HE.out.1; have := HE.out.2; omega) k5 k9 k10
       clear HL hc
       by_cases h3 : hi = r
       ·
        subst h3
        have h4 : ¬ lo ≤ u0 := fun h => h2 ⟨rfl, h⟩
        have h5 : (hi == hi) = true := by simp
        clear h2
        go_wp2_with (first | simp only [hrun] | (go_at_call 136; refine (hmul _).mono ?_; rintro e w' ⟨rfl, rfl⟩))
        go_ret
        exact ⟨_, rfl, HN.out, 0, rfl⟩
       ·
        have h5 : (hi == r) = false := by simpa using h3
        clear h2
        go_wp2_with (first | simp only [hrun] | (go_at_call 136; refine (hmul _).mono ?_; rintro e w' ⟨rfl, rfl⟩))
        go_ret
        exact ⟨_, rfl, HN.out, 0, rfl⟩
  ·
   have HG : Hid (IsGuess u2 u1 u0 u2 v0 18446744073709551615) := IsGuess.top (by omega) k5 k9 k10
   clear he1 hd1 hc1
   go_enter Tryz.func150, Tryz.ntmps150
   go_wp2_with (simp only [hrun1])
   go_ret
   exact ⟨_, rfl, HG.out, 0, rfl⟩
theorem guess_ex (u2 u1 u0 v1 v0 : Int) (k1 : 0 ≤ u2) (k2 : u2 ≤ v1) (k3 : 0 ≤ u1) (k4 : u1 < 18446744073709551616) (k5 : 0 ≤ u0) (k6 : u0 < 18446744073709551616) (k7 : 0 ≤ v1) (k8 : v1 < 18446744073709551616) (k9 : 0 ≤ v0) (k10 : v0 < 18446744073709551616) (kv : 0 < v1) :
  ∃ g, (∀ W : World, Calls Tryz.prog 150 #[.int .u64 u2, .int .u64 u1, .int .u64 u0, .int .u64 v1, .int .u64 v0] W fun e w' => e = .returned (.int .u64 g) ∧ ∃ n, w' = W.drewN n) ∧ IsGuess u2 u1 u0 v1 v0 g := by
 have hG : ∃ g, IsGuess u2 u1 u0 v1 v0 g := by
  obtain ⟨D, hDe⟩ : ∃ D, v1 * 18446744073709551616 + v0 = D := ⟨_, rfl⟩
  obtain ⟨U, hU⟩ : ∃ U, (u2 * 18446744073709551616 + u1) * 18446744073709551616 + u0 = U := ⟨_, rfl⟩
  have hD : 0 < D := by omega
  have hU0 : 0 ≤ U := by omega
  have e := Int.mul_ediv_add_emod U D
  have e1 := Int.emod_nonneg U (show D ≠ 0 by omega)
  have e2 := Int.emod_lt_of_pos U hD
  have e3 : 0 ≤ U / D := Int.ediv_nonneg hU0 (by omega)
  unfold IsGuess
  rw [hDe, hU]
  by_cases h : U / D < 18446744073709551615
  ·
   refine ⟨U / D, e3, by omega, by rw [Int.mul_comm]; omega, Or.inl ?_⟩
   rw [Int.add_mul, Int.mul_comm (U / D) D]; omega
  ·
   refine ⟨18446744073709551615, by decide, by decide, ?_, Or.inr rfl⟩
   have : 18446744073709551615 * D ≤ U / D * D := Int.mul_le_mul_of_nonneg_right (by omega) (by omega)
   rw [Int.mul_comm (U / D) D] at this; omega
 obtain ⟨g, hg⟩ := hG
 refine ⟨g, fun W => (guess_any u2 u1 u0 v1 v0 W k1 k2 k3 k4 k5 k6 k7 k8 k9 k10 kv).mono ?_, hg⟩
 rintro e w' ⟨g', rfl, hg', hn⟩
 exact ⟨ret_int (hg'.one kv k9 hg), hn⟩
end Go.Proofs.YthjkdnlbdhhmbaaGreatDoor
