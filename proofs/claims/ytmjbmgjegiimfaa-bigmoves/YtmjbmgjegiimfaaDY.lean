/-
  Walks: subTimes, upBits, downBits.
-/
import Derived.Test.YtmjbmgjegiimfaaDX
namespace Go.Proofs.Ytmjbmgjegiimfaa
open Go.RowKit
set_option linter.unusedVariables false
set_option linter.unusedSimpArgs false

/-- the first k digits of x, u times, were taken from those of L from off on; c is borrowed -/
structure OffSt (q : Int) (L x : List Int) (u : Int) (off k : Nat) (c : Int) (Lk : List Int) : Prop where
  len : Lk.length = L.length
  out : ∀ j, j < off ∨ off + k ≤ j → dig Lk j = dig L j
  wd : Wd q Lk
  c0 : 0 ≤ c
  c1 : c < q
  eq : V q Lk off k + u * val q (x.take k) = V q L off k + c * q ^ k
theorem OffSt.start {q : Int} {L x : List Int} {u : Int} (off : Nat) (h : Wd q L) (hq : 0 < q) : OffSt q L x u off 0 0 L :=
  ⟨rfl, fun _ _ => rfl, h, Int.le_refl _, hq, by simp [V_zero, val]⟩
theorem OffSt.step {q : Int} {L x : List Int} {u : Int} {off k : Nat} {c : Int} {Lk : List Int} (h : OffSt q L x u off k c Lk) (hk : off + k < L.length) {d c' : Int} (hd : 0 ≤ d ∧ d < q) (hc : 0 ≤ c' ∧ c' < q)
    (he : d + dig x k * u + c = dig L (off + k) + c' * q) : OffSt q L x u off (k + 1) c' (Lk.set (off + k) d) := by
  have hl : off + k < Lk.length := by rw [h.len]; exact hk
  refine ⟨by simp [h.len], fun j hj => ?_, h.wd.set _ hd, hc.1, hc.2, ?_⟩
  · rw [dig_set _ hl, if_neg (by omega)]; exact h.out j (by omega)
  · have e1 : V q (Lk.set (off + k) d) off k = V q Lk off k := V_congr fun j hj => by rw [dig_set _ hl, if_neg (by omega)]
    rw [V_succ, V_succ, e1, dig_set _ hl, if_pos rfl, val_take_dig, Int.pow_succ]
    have h1 := h.eq
    have e2 : q ^ k * (d + dig x k * u + c) = q ^ k * (dig L (off + k) + c' * q) := by rw [he]
    grind

/-- what subTimes leaves -/
def Offed (w w' : World) (e : Ending) (g off n : Nat) (L xs : List Int) (u : Int) : Prop :=
  ∃ c L', e = .returned (.int .u64 c) ∧ Blk w' g .u64 44 L' ∧ OffSt 18446744073709551616 L xs u off n c L' ∧ Touch g w w'

set_option maxRecDepth 100000 in
set_option maxHeartbeats 1600000 in
theorem subTimes_any (g off n cap : Nat) (bo : Option Addr) (m cb : Nat) (L xs : List Int) (u : Int) (w : World) (hb : Blk w g .u64 44 L) (hW : Wd 18446744073709551616 L) (hn : off + n ≤ L.length) (hnc : n ≤ cap) (hcap : cap ≤ 4611686018427387904)
    (hy : RowAt w .u64 bo m cb xs) (hyW : Wd 18446744073709551616 xs) (hm : m ≤ n) (hap : Apart bo m g off n) (hu : 0 ≤ u ∧ u < 18446744073709551616) :
    Calls Try.prog 90 #[.slice (some ⟨g, off, none⟩) n cap, .slice bo m cb, .int .u64 u] w fun e w' => Offed w w' e g off m L xs u := by
  have HH : Hid (Blk w g .u64 44 L ∧ Wd 18446744073709551616 L ∧ off + n ≤ L.length ∧ Wd 18446744073709551616 xs ∧ Apart bo m g off n) := ⟨hb, hW, hn, hyW, hap⟩
  obtain ⟨hu1, hu2⟩ := hu
  clear hb hW hn hyW hap
  go_enter Try.func90, Try.ntmps90
  go_wp2
  go_loopw [7, 19] (fun c i wr => ∃ (k : Nat) (cv : Int) (Lk : List Int), k ≤ m ∧ i = .int .i64 k ∧ c = .int .u64 cv ∧ OffSt 18446744073709551616 L xs u off k cv Lk ∧ Blk wr g .u64 44 Lk ∧ Touch g w wr) (fun _ i _ => m - (intOf i).toNat)
  case atStart => exact ⟨0, 0, L, Nat.zero_le _, rfl, rfl, OffSt.start off HH.out.2.1 (by decide), HH.out.1, Touch.refl _ _⟩
  case round =>
    obtain ⟨k, cv, Lk, hk, rfl, rfl, hst, hbl, hto⟩ := hrel
    have HS : Hid (OffSt 18446744073709551616 L xs u off k cv Lk ∧ Blk wr g .u64 44 Lk ∧ Touch g w wr) := ⟨hst, hbl, hto⟩
    by_cases hlt : k < m
    · have hyr : RowAt wr .u64 bo m cb xs := row_touch hy HH.out.1 hbl hto HH.out.2.2.2.2 (fun j hj => hst.out j (by omega)) hst.len
      obtain ⟨b', o', rfl, hb', hc'⟩ := hyr.get (by omega)
      have hcy := hc' k hlt
      have hcz := hbl.cell (j := off + k) (by have := hst.len; have := HH.out.2.2.1; omega)
      have hfz := hbl.frozen (off + k)
      have hgs : g < wr.heap.size := hbl.lt
      have bz := hst.wd.dig (by decide) (off + k)
      have bx := HH.out.2.2.2.1.dig (by decide) k
      obtain ⟨z, hz⟩ : ∃ z, dig Lk (off + k) = z := ⟨_, rfl⟩
      obtain ⟨x, hx⟩ : ∃ x, dig xs k = x := ⟨_, rfl⟩
      rw [hz] at hcz bz
      rw [hx] at hcy bx
      obtain ⟨hi, lo, hmul, hhi, hlo, hml⟩ := mul64_ex x u bx ⟨hu1, hu2⟩
      obtain ⟨d1, c1, hrun1, hd1, hc1, he1⟩ := add64_ex lo cv 0 hlo ⟨hst.c0, hst.c1⟩ (by decide) (by decide)
      obtain ⟨d2, c2, hrun2, hd2, hc2, he2⟩ := sub64_ex z d1 0 bz hd1 (by decide) (by decide)
      have HZ : Hid (dig Lk (off + k) = z ∧ dig xs k = x) := ⟨hz, hx⟩
      have htot : x * u ≤ 18446744073709551615 * 18446744073709551615 := Int.mul_le_mul (by omega) (by omega) hu1 (by decide)
      have s1 : hi + c1 ≤ 18446744073709551615 := by omega
      have s2 : hi + c1 + c2 ≤ 18446744073709551615 := by have := hst.c1; omega
      have s0 : 0 ≤ hi + c1 := by omega
      have s3 : 0 ≤ hi + c1 + c2 := by omega
      have HD : Hid ((0 ≤ d2 ∧ d2 < 18446744073709551616) ∧ (0 ≤ hi + c1 + c2 ∧ hi + c1 + c2 < 18446744073709551616) ∧ d2 + x * u + cv = z + (hi + c1 + c2) * 18446744073709551616) := ⟨hd2, by omega, by omega⟩
      obtain ⟨hhi1, hhi2⟩ := hhi
      obtain ⟨hc11, hc12⟩ := hc1
      obtain ⟨hc21, hc22⟩ := hc2
      clear hd1 hd2 he1 he2 hml hst hbl hto hyr hy hc' hlo bx bz hz hx htot
      go_wp2_with (first | simp only [hrun1] | simp only [hrun2] | (go_at_call 80; refine (hmul _).mono ?_; rintro e w' ⟨rfl, rfl⟩))
      go_roundw
      case rel => exact ⟨k + 1, hi + c1 + c2, Lk.set (off + k) d2, by omega, by go_num, by go_num, HS.out.1.step (by have := HH.out.2.2.1; omega) HD.out.1 HD.out.2.1 (by have := HD.out.2.2; rw [← HZ.out.1, ← HZ.out.2, HS.out.1.out (off + k) (by omega)] at this; exact this), HS.out.2.1.set _ _, HS.out.2.2.set _ _⟩
      case measure => simp [intOf]; omega
    · obtain rfl : k = m := by omega
      clear hst hbl hto hy
      go_wp2
      go_ret
      exact ⟨cv, Lk, rfl, HS.out.2.1, HS.out.1, HS.out.2.2⟩

theorem pow_pair {s : Nat} (hs : s < 64) : ∃ P R : Nat, 2 ^ s = P ∧ 2 ^ (64 - s) = R ∧ 0 < P ∧ 0 < R ∧ P * R = 18446744073709551616 ∧ ((2 : Int) ^ s = P) ∧ ((2 : Int) ^ (64 - s) = R) :=
  ⟨_, _, rfl, rfl, Nat.two_pow_pos _, Nat.two_pow_pos _, by rw [← Nat.pow_add, show s + (64 - s) = 64 by omega], by rw [Int.natCast_pow]; rfl, by rw [Int.natCast_pow]; rfl⟩

theorem or_low {a b s P : Nat} (hP : 2 ^ s = P) (hb : b < P) : (a * P) ||| b = a * P + b := by
  have := Nat.shiftLeft_add_eq_or_of_lt (i := s) (b := b) (by rw [hP]; exact hb) a
  rw [Nat.shiftLeft_eq, hP] at this
  exact this.symm

theorem up_ex (x : Int) (s : Nat) (o : Int) (hs : s < 64) (hx : 0 ≤ x ∧ x < 18446744073709551616) (ho : 0 ≤ o ∧ o < 2 ^ s) :
    ∃ d c : Int, bits .or .u64 (IntKind.u64.wrap (x * 2 ^ s)) o = d ∧ x / 2 ^ (64 - s) = c ∧ (0 ≤ d ∧ d < 18446744073709551616) ∧ (0 ≤ c ∧ c < 2 ^ s) ∧ d + c * 18446744073709551616 = x * 2 ^ s + o := by
  obtain ⟨P, R, hP, hR, hP0, hR0, hPR, hPi, hRi⟩ := pow_pair hs
  obtain ⟨x, rfl⟩ := Int.eq_ofNat_of_zero_le hx.1
  obtain ⟨o, rfl⟩ := Int.eq_ofNat_of_zero_le ho.1
  rw [hPi] at ho ⊢
  rw [hRi]
  have h1 := Nat.div_add_mod x R
  have h2 : x % R < R := Nat.mod_lt _ hR0
  obtain ⟨c, hc⟩ : ∃ c, x / R = c := ⟨_, rfl⟩
  obtain ⟨t, ht⟩ : ∃ t, x % R = t := ⟨_, rfl⟩
  rw [hc, ht] at h1
  rw [ht] at h2
  have hcP : c < P := by rw [← hc, Nat.div_lt_iff_lt_mul hR0, hPR]; omega
  have hxP : x * P = c * 18446744073709551616 + t * P := by rw [← h1, ← hPR]; grind
  have htP : t * P + P ≤ 18446744073709551616 := by
    have : (t + 1) * P ≤ R * P := Nat.mul_le_mul_right P h2
    rw [Nat.add_mul, Nat.mul_comm R P, hPR] at this; omega
  refine ⟨((t * P + o : Nat) : Int), (c : Int), ?_, ?_, by omega, by omega, ?_⟩
  · rw [← Int.natCast_mul, hxP, IntKind.wrap_u64]
    have e : ((c * 18446744073709551616 + t * P : Nat) : Int) % 18446744073709551616 = ((t * P : Nat) : Int) := by omega
    rw [e, bits_or_u64_nat _ _ (by omega) (by omega), or_low hP (by omega)]
  · rw [← hc, Int.natCast_ediv]
  · rw [← Int.natCast_mul, hxP]; omega

theorem down_ex (x : Int) (s : Nat) (o : Int) (hs : s < 64) (hx : 0 ≤ x ∧ x < 18446744073709551616) (ho : 0 ≤ o ∧ o < 2 ^ s) :
    ∃ d t : Int, bits .or .u64 (x / 2 ^ s) (o * 2 ^ (64 - s)) = d ∧ IntKind.u64.wrap (x * 2 ^ (64 - s)) = t * 2 ^ (64 - s) ∧ (0 ≤ d ∧ d < 18446744073709551616) ∧ (0 ≤ t ∧ t < 2 ^ s) ∧ d * 2 ^ s + t = o * 18446744073709551616 + x := by
  obtain ⟨P, R, hP, hR, hP0, hR0, hPR, hPi, hRi⟩ := pow_pair hs
  obtain ⟨x, rfl⟩ := Int.eq_ofNat_of_zero_le hx.1
  obtain ⟨o, rfl⟩ := Int.eq_ofNat_of_zero_le ho.1
  rw [hPi] at ho ⊢
  rw [hRi]
  have h1 := Nat.div_add_mod x P
  have h2 : x % P < P := Nat.mod_lt _ hP0
  obtain ⟨c, hc⟩ : ∃ c, x / P = c := ⟨_, rfl⟩
  obtain ⟨t, ht⟩ : ∃ t, x % P = t := ⟨_, rfl⟩
  rw [hc, ht] at h1
  rw [ht] at h2
  have hcR : c < R := by rw [← hc, Nat.div_lt_iff_lt_mul hP0, Nat.mul_comm, hPR]; omega
  have hxR : x * R = c * 18446744073709551616 + t * R := by rw [← h1, ← hPR]; grind
  have htR : t * R + R ≤ 18446744073709551616 := by
    have : (t + 1) * R ≤ P * R := Nat.mul_le_mul_right R h2
    rw [Nat.add_mul, hPR] at this; omega
  have hoR : o * R + R ≤ 18446744073709551616 := by
    have : (o + 1) * R ≤ P * R := Nat.mul_le_mul_right R (by omega)
    rw [Nat.add_mul, hPR] at this; omega
  refine ⟨((o * R + c : Nat) : Int), (t : Int), ?_, ?_, by omega, by omega, ?_⟩
  · have e : ((x : Int) / (P : Int)) = ((c : Nat) : Int) := by rw [← hc, Int.natCast_ediv]
    rw [← Int.natCast_mul, e, bits_or_u64_nat _ _ (by omega) (by omega), Nat.or_comm, or_low hR hcR]
  · rw [← Int.natCast_mul, hxR, IntKind.wrap_u64, ← Int.natCast_mul]; omega
  · have e : (o * R + c) * P = o * 18446744073709551616 + c * P := by rw [← hPR]; grind
    have e2 : c * P + t = x := by rw [Nat.mul_comm]; exact h1
    rw [← Int.natCast_mul, e]; omega

/-- the first k digits of x, times P, were laid into L from off on; c is carried -/
structure UpSt (q : Int) (L x : List Int) (P : Int) (off k : Nat) (c : Int) (Lk : List Int) : Prop where
  len : Lk.length = L.length
  out : ∀ j, j < off ∨ off + k ≤ j → dig Lk j = dig L j
  wd : Wd q Lk
  c0 : 0 ≤ c
  c1 : c < P
  eq : V q Lk off k + c * q ^ k = P * val q (x.take k)
theorem UpSt.start {q : Int} {L x : List Int} {P : Int} (off : Nat) (h : Wd q L) (hq : 0 < P) : UpSt q L x P off 0 0 L :=
  ⟨rfl, fun _ _ => rfl, h, Int.le_refl _, hq, by simp [V_zero, val]⟩
theorem UpSt.step {q : Int} {L x : List Int} {P : Int} {off k : Nat} {c : Int} {Lk : List Int} (h : UpSt q L x P off k c Lk) (hk : off + k < L.length) {d c' : Int} (hd : 0 ≤ d ∧ d < q) (hc : 0 ≤ c' ∧ c' < P)
    (he : d + c' * q = dig x k * P + c) : UpSt q L x P off (k + 1) c' (Lk.set (off + k) d) := by
  have hl : off + k < Lk.length := by rw [h.len]; exact hk
  refine ⟨by simp [h.len], fun j hj => ?_, h.wd.set _ hd, hc.1, hc.2, ?_⟩
  · rw [dig_set _ hl, if_neg (by omega)]; exact h.out j (by omega)
  · have e1 : V q (Lk.set (off + k) d) off k = V q Lk off k := V_congr fun j hj => by rw [dig_set _ hl, if_neg (by omega)]
    rw [V_succ, e1, dig_set _ hl, if_pos rfl, val_take_dig, Int.pow_succ]
    have h1 := h.eq
    have e2 : q ^ k * (d + c' * q) = q ^ k * (dig x k * P + c) := by rw [he]
    grind

/-- what upBits leaves -/
def Upped (w w' : World) (e : Ending) (g off n : Nat) (L xs : List Int) (P : Int) : Prop :=
  ∃ c L', e = .returned (.int .u64 c) ∧ Blk w' g .u64 44 L' ∧ UpSt 18446744073709551616 L xs P off n c L' ∧ Touch g w w'

set_option maxRecDepth 100000 in
set_option maxHeartbeats 1600000 in
theorem upBits_any (g off n cap : Nat) (bo : Option Addr) (m cb : Nat) (L xs : List Int) (s : Nat) (w : World) (hs : s < 64) (hb : Blk w g .u64 44 L) (hW : Wd 18446744073709551616 L) (hn : off + n ≤ L.length) (hnc : n ≤ cap) (hcap : cap ≤ 4611686018427387904)
    (hy : RowAt w .u64 bo m cb xs) (hyW : Wd 18446744073709551616 xs) (hm : m ≤ n) (hap : Apart bo m g off n) :
    Calls Try.prog 52 #[.slice (some ⟨g, off, none⟩) n cap, .slice bo m cb, .int .u64 (s : Int)] w fun e w' => Upped w w' e g off m L xs (2 ^ s) := by
  have HH : Hid (Blk w g .u64 44 L ∧ Wd 18446744073709551616 L ∧ off + n ≤ L.length ∧ Wd 18446744073709551616 xs ∧ Apart bo m g off n) := ⟨hb, hW, hn, hyW, hap⟩
  clear hb hW hn hyW hap
  go_enter Try.func52, Try.ntmps52
  go_wp2
  go_loopw [7, 12] (fun c i wr => ∃ (k : Nat) (cv : Int) (Lk : List Int), k ≤ m ∧ i = .int .i64 k ∧ c = .int .u64 cv ∧ UpSt 18446744073709551616 L xs (2 ^ s) off k cv Lk ∧ Blk wr g .u64 44 Lk ∧ Touch g w wr) (fun _ i _ => m - (intOf i).toNat)
  case atStart => exact ⟨0, 0, L, Nat.zero_le _, rfl, rfl, UpSt.start off HH.out.2.1 (Int.pow_pos (by decide)), HH.out.1, Touch.refl _ _⟩
  case round =>
    obtain ⟨k, cv, Lk, hk, rfl, rfl, hst, hbl, hto⟩ := hrel
    have HS : Hid (UpSt 18446744073709551616 L xs (2 ^ s) off k cv Lk ∧ Blk wr g .u64 44 Lk ∧ Touch g w wr) := ⟨hst, hbl, hto⟩
    by_cases hlt : k < m
    · have hyr : RowAt wr .u64 bo m cb xs := row_touch hy HH.out.1 hbl hto HH.out.2.2.2.2 (fun j hj => hst.out j (by omega)) hst.len
      obtain ⟨b', o', rfl, hb', hc'⟩ := hyr.get (by omega)
      have hcy := hc' k hlt
      have hcz := hbl.cell (j := off + k) (by have := hst.len; have := HH.out.2.2.1; omega)
      have hfz := hbl.frozen (off + k)
      have hgs : g < wr.heap.size := hbl.lt
      have bx := HH.out.2.2.2.1.dig (by decide) k
      obtain ⟨z, hz⟩ : ∃ z, dig Lk (off + k) = z := ⟨_, rfl⟩
      obtain ⟨x, hx⟩ : ∃ x, dig xs k = x := ⟨_, rfl⟩
      rw [hz] at hcz
      rw [hx] at hcy bx
      obtain ⟨d, c, hd, hc, hd1, hc1, he⟩ := up_ex x s cv hs bx ⟨hst.c0, hst.c1⟩
      have HZ : Hid (dig xs k = x) := hx
      have HD : Hid ((0 ≤ d ∧ d < 18446744073709551616) ∧ (0 ≤ c ∧ c < 2 ^ s) ∧ d + c * 18446744073709551616 = x * 2 ^ s + cv) := ⟨hd1, hc1, he⟩
      clear hd1 hc1 he hst hbl hto hyr hy hc' bx hz hx
      go_wp2
      go_roundw
      case rel => exact ⟨k + 1, c, Lk.set (off + k) d, by omega, by go_num, by go_num, HS.out.1.step (by have := HH.out.2.2.1; omega) HD.out.1 HD.out.2.1 (by rw [HZ.out]; exact HD.out.2.2), HS.out.2.1.set _ _, HS.out.2.2.set _ _⟩
      case measure => simp [intOf]; omega
    · obtain rfl : k = m := by omega
      clear hst hbl hto hy
      go_wp2
      go_ret
      exact ⟨cv, Lk, rfl, HS.out.2.1, HS.out.1, HS.out.2.2⟩

/-- what downBits leaves -/
def Downed (w w' : World) (e : Ending) (g off n : Nat) (L xs : List Int) (P : Int) : Prop :=
  ∃ r L', e = .returned (.tuple #[]) ∧ Blk w' g .u64 44 L' ∧ QuoSt 18446744073709551616 L xs P off n 0 r L' ∧ Touch g w w'

set_option maxRecDepth 100000 in
set_option maxHeartbeats 1600000 in
theorem downBits_any (g off n cap : Nat) (bo : Option Addr) (cb : Nat) (L xs : List Int) (s : Nat) (w : World) (hs : s < 64) (hb : Blk w g .u64 44 L) (hW : Wd 18446744073709551616 L) (hn : off + n ≤ L.length) (hnc : n ≤ cap) (hcap : cap ≤ 4611686018427387904)
    (hx : RowAt w .u64 bo n cb xs) (hxW : Wd 18446744073709551616 xs) (hap : Apart bo n g off n) :
    Calls Try.prog 56 #[.slice (some ⟨g, off, none⟩) n cap, .slice bo n cb, .int .u64 (s : Int)] w fun e w' => Downed w w' e g off n L xs (2 ^ s) := by
  have HH : Hid (Blk w g .u64 44 L ∧ Wd 18446744073709551616 L ∧ off + n ≤ L.length ∧ Wd 18446744073709551616 xs ∧ Apart bo n g off n) := ⟨hb, hW, hn, hxW, hap⟩
  clear hb hW hn hxW hap
  go_enter Try.func56, Try.ntmps56
  go_wp2
  go_loopw [6, 7] (fun c i wr => ∃ (k : Nat) (r : Int) (Lk : List Int), k ≤ n ∧ i = .int .i64 ((k : Int) - 1) ∧ c = .int .u64 (r * 2 ^ (64 - s)) ∧ QuoSt 18446744073709551616 L xs (2 ^ s) off n k r Lk ∧ Blk wr g .u64 44 Lk ∧ Touch g w wr) (fun _ i _ => (intOf i + 1).toNat)
  case atStart => exact ⟨n, 0, L, Nat.le_refl _, by go_num, by rw [Int.zero_mul], QuoSt.start off n HH.out.2.1 (Int.pow_pos (by decide)), HH.out.1, Touch.refl _ _⟩
  case round =>
    obtain ⟨k, r, Lk, hk, rfl, rfl, hst, hbl, hto⟩ := hrel
    have HS : Hid (QuoSt 18446744073709551616 L xs (2 ^ s) off n k r Lk ∧ Blk wr g .u64 44 Lk ∧ Touch g w wr) := ⟨hst, hbl, hto⟩
    rcases k with _ | k
    · clear hst hbl hto hx
      go_wp2
      go_end0
      exact ⟨r, Lk, rfl, HS.out.2.1, HS.out.1, HS.out.2.2⟩
    · have hxr : RowAt wr .u64 bo n cb xs := row_touch hx HH.out.1 hbl hto HH.out.2.2.2.2 (fun j hj => hst.out j (by omega)) hst.len
      obtain ⟨b', o', rfl, hb', hc'⟩ := hxr.get (by omega)
      have hcx := hc' k (by omega)
      have hcz := hbl.cell (j := off + k) (by have := hst.len; have := HH.out.2.2.1; omega)
      have hfz := hbl.frozen (off + k)
      have hgs : g < wr.heap.size := hbl.lt
      have bx := HH.out.2.2.2.1.dig (by decide) k
      obtain ⟨x, hxe⟩ : ∃ x, dig xs k = x := ⟨_, rfl⟩
      obtain ⟨z, hz⟩ : ∃ z, dig Lk (off + k) = z := ⟨_, rfl⟩
      rw [hz] at hcz
      rw [hxe] at hcx bx
      have HX : Hid (dig xs k = x) := hxe
      obtain ⟨d, t, hd, ht, hd1, ht1, he⟩ := down_ex x s r hs bx ⟨hst.r0, hst.r1⟩
      have HD : Hid ((0 ≤ d ∧ d < 18446744073709551616) ∧ (0 ≤ t ∧ t < 2 ^ s) ∧ d * 2 ^ s + t = r * 18446744073709551616 + x) := ⟨hd1, ht1, he⟩
      have hkk : ((k + 1 : Nat) : Int) - 1 = (k : Int) := by omega
      rw [hkk]
      clear hd1 ht1 he hst hbl hto hxr hx hc' bx hxe hz hkk
      obtain ⟨tt, htt⟩ : ∃ tt, t * 2 ^ (64 - s) = tt := ⟨_, rfl⟩
      have HT : Hid (t * 2 ^ (64 - s) = tt) := htt
      obtain ⟨rr, hrr⟩ : ∃ rr, r * 2 ^ (64 - s) = rr := ⟨_, rfl⟩
      rw [hrr] at hd ⊢
      rw [htt] at ht
      clear htt hrr
      go_wp2
      go_roundw
      case rel => exact ⟨k, t, Lk.set (off + k) d, by omega, by go_num, by rw [HT.out], HS.out.1.step (by omega) HH.out.2.2.1 HD.out.1 HD.out.2.1 (by rw [HX.out]; exact HD.out.2.2), Blk.set HS.out.2.1 _ _, HS.out.2.2.set _ _⟩
      case measure => simp [intOf]
end Go.Proofs.Ytmjbmgjegiimfaa
