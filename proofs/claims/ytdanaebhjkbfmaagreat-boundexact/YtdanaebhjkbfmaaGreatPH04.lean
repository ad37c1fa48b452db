/-
  DV, DW.
-/
import Derived.Test.YtdanaebhjkbfmaaGreatPH03
import Derived.Lib.ItoaNum
/- Plain mathematics: the quotient of two words by one, by halves (as math/bits.Div64 does it). -/
namespace Go.Proofs.YtdanaebhjkbfmaaGreat
open Go.RowKit
set_option linter.unusedVariables false
set_option linter.unusedSimpArgs false
theorem bitLen_bounds {y : Nat} (h0 : 0 < y) (h1 : y < 18446744073709551616) : 1 ≤ Lib.bitLen y ∧ 2 ^ (Lib.bitLen y - 1) ≤ y ∧ y < 2 ^ Lib.bitLen y :=
  Lib.bitLenAux_bounds 64 y (by simpa using h1) (by omega)
/-- a guess of a half-word of the quotient: not too small; r is what the upper half leaves -/
structure DSt (b1 b0 u v q r : Int) : Prop where
  eq : q * b1 + r = u
  r0 : 0 ≤ r
  r1 : r < 4294967296
  q0 : 0 ≤ q
  q1 : q ≤ 4294967297
  up : u * 4294967296 + v < (q + 1) * (b1 * 4294967296 + b0)
theorem DSt.start {b1 b0 u v : Int} (h1 : 2147483648 ≤ b1) (h2 : b1 < 4294967296) (h3 : 0 ≤ b0) (h4 : b0 < 4294967296) (hu : 0 ≤ u) (hu' : u < b1 * 4294967296 + b0) (hv : 0 ≤ v) (hv' : v < 4294967296) : DSt b1 b0 u v (u / b1) (u % b1) := by
  have e := Int.mul_ediv_add_emod u b1
  have r0 := Int.emod_nonneg u (show b1 ≠ 0 by omega)
  have r1 := Int.emod_lt_of_pos u (show 0 < b1 by omega)
  have q0 : 0 ≤ u / b1 := Int.ediv_nonneg hu (by omega)
  obtain ⟨q, hq⟩ : ∃ q, u / b1 = q := ⟨_, rfl⟩
  obtain ⟨r, hr⟩ : ∃ r, u % b1 = r := ⟨_, rfl⟩
  rw [hq, hr] at e; rw [hq] at q0 ⊢; rw [hr] at r0 r1 ⊢
  refine ⟨by rw [Int.mul_comm]; exact e, r0, by omega, q0, ?_, ?_⟩
  · by_cases h : q ≤ 4294967297
    · exact h
    · exfalso
      have : b1 * 4294967298 ≤ b1 * q := Int.mul_le_mul_of_nonneg_left (by omega) (by omega)
      omega
  · have e1 : (q + 1) * (b1 * 4294967296 + b0) = (b1 * q) * 4294967296 + b1 * 4294967296 + (q + 1) * b0 := by grind
    have e2 : 0 ≤ (q + 1) * b0 := Int.mul_nonneg (by omega) h3
    rw [e1]; omega
/-- too great: one less -/
theorem DSt.less {b1 b0 u v q r : Int} (h : DSt b1 b0 u v q r) (h1 : 2147483648 ≤ b1) (h3 : 0 ≤ b0) (hu' : u < b1 * 4294967296 + b0) (hv : 0 ≤ v) (hv' : v < 4294967296) (hbig : 4294967296 ≤ q ∨ 4294967296 * r + v < q * b0) :
    (q - 1) * b1 + (r + b1) = u ∧ 0 ≤ q - 1 ∧ u * 4294967296 + v < (q - 1 + 1) * (b1 * 4294967296 + b0) ∧ q - 1 ≤ 4294967296 := by
  have e0 := h.eq
  have hq := h.q0
  have hq1 : 1 ≤ q := by
    rcases hbig with hb | hb
    · omega
    · by_cases h0 : q = 0
      · subst h0; have := h.r0; simp only [Int.zero_mul] at hb; omega
      · omega
  refine ⟨by grind, by omega, ?_, by have := h.q1; omega⟩
  rw [show q - 1 + 1 = q by omega]
  rcases hbig with hb | hb
  · have : 4294967296 * (b1 * 4294967296 + b0) ≤ q * (b1 * 4294967296 + b0) := Int.mul_le_mul_of_nonneg_right hb (by omega)
    omega
  · have e1 : q * (b1 * 4294967296 + b0) = (q * b1) * 4294967296 + q * b0 := by grind
    rw [e1]; omega
/-- not too great -/
theorem DSt.done {b1 b0 u v q r : Int} (h : DSt b1 b0 u v q r) (hok : q * b0 ≤ 4294967296 * r + v) : q * (b1 * 4294967296 + b0) ≤ u * 4294967296 + v := by
  have e0 := h.eq
  have e1 : q * (b1 * 4294967296 + b0) = (q * b1) * 4294967296 + q * b0 := by grind
  rw [e1]; omega
theorem quot_unique {D N q : Int} (hD : 0 < D) (h1 : q * D ≤ N) (h2 : N < (q + 1) * D) : q = N / D ∧ N - q * D = N % D := by
  have e1 : N / D = q := by
    rw [Int.ediv_eq_iff_of_pos hD]
    exact ⟨h1, by rw [Int.add_mul, Int.one_mul] at h2; exact h2⟩
  have := Int.mul_ediv_add_emod N D
  rw [e1] at this
  refine ⟨e1.symm, ?_⟩
  rw [Int.mul_comm] at this; omega
end Go.Proofs.YtdanaebhjkbfmaaGreat
/- Walks: math/bits.Div64. -/
namespace Go.Proofs.YtdanaebhjkbfmaaGreat
open Go.RowKit
set_option linter.unusedVariables false
set_option linter.unusedSimpArgs false
end Go.Proofs.YtdanaebhjkbfmaaGreat
/-
  DX, DY, DZ.
-/
/- Walks: math/bits.Div64 whole; divideByLimb. -/
namespace Go.Proofs.YtdanaebhjkbfmaaGreat
open Go.RowKit
set_option linter.unusedVariables false
set_option linter.unusedSimpArgs false
theorem V_cons (q : Int) (L : List Int) (off m : Nat) : V q L off (m + 1) = dig L off + q * V q L (off + 1) m := by
  have := V_split q L off 1 m
  rw [Nat.add_comm 1 m] at this
  rw [this, V_succ, V_zero, Int.pow_one]; simp
/-- the upper digits of x, from place k on, were divided by y: the quotient's lie in Lk, r is left -/
structure QuoSt (q : Int) (L x : List Int) (y : Int) (off n k : Nat) (r : Int) (Lk : List Int) : Prop where
  len : Lk.length = L.length
  out : ∀ j, j < off + k ∨ off + n ≤ j → dig Lk j = dig L j
  wd : Wd q Lk
  r0 : 0 ≤ r
  r1 : r < y
  eq : V q Lk (off + k) (n - k) * y + r = V q x k (n - k)
theorem QuoSt.start {q : Int} {L x : List Int} {y : Int} (off n : Nat) (h : Wd q L) (hy : 0 < y) : QuoSt q L x y off n n 0 L :=
  ⟨rfl, fun _ _ => rfl, h, Int.le_refl _, hy, by simp [V_zero]⟩
theorem QuoSt.step {q : Int} {L x : List Int} {y : Int} {off n k : Nat} {r : Int} {Lk : List Int} (h : QuoSt q L x y off n (k + 1) r Lk) (hk : k < n) (hl : off + n ≤ L.length) {d r' : Int} (hd : 0 ≤ d ∧ d < q) (hr : 0 ≤ r' ∧ r' < y)
    (he : d * y + r' = r * q + dig x k) : QuoSt q L x y off n k r' (Lk.set (off + k) d) := by
  have hl2 : off + k < Lk.length := by rw [h.len]; omega
  refine ⟨by simp [h.len], fun j hj => ?_, h.wd.set _ hd, hr.1, hr.2, ?_⟩
  · rw [dig_set _ hl2, if_neg (by omega)]; exact h.out j (by omega)
  · have e0 : n - k = (n - (k + 1)) + 1 := by omega
    rw [e0, V_cons, V_cons, dig_set _ hl2, if_pos rfl]
    have e1 : V q (Lk.set (off + k) d) (off + k + 1) (n - (k + 1)) = V q Lk (off + (k + 1)) (n - (k + 1)) := V_congr fun j hj => by rw [dig_set _ hl2, if_neg (by omega)]; rfl
    rw [e1]
    have := h.eq
    grind
end Go.Proofs.YtdanaebhjkbfmaaGreat
/- Walks: subTimes, upBits, downBits. -/
namespace Go.Proofs.YtdanaebhjkbfmaaGreat
open Go.RowKit
set_option linter.unusedVariables false
set_option linter.unusedSimpArgs false
/-- the first k digits of x, u times, were taken from those of L from off on; c is borrowed -/
structure OffSt (q : Int) (L x : List Int) (u : Int) (off k : Nat) (c : Int) (Lk : List Int) : Prop where
  len : Lk.length = L.length
  out : ∀ j, j < off ∨ off + k ≤ j → dig Lk j = dig L j
  wd : Wd q Lk
  c0 : 0 ≤ c
  c1 : c < q
  eq : V q Lk off k + u * val q (x.take k) = V q L off k + c * q ^ k
theorem OffSt.start {q : Int} {L x : List Int} {u : Int} (off : Nat) (h : Wd q L) (hq : 0 < q) : OffSt q L x u off 0 0 L :=
  ⟨rfl, fun _ _ => rfl, h, Int.le_refl _, hq, by simp [V_zero, val]⟩
theorem OffSt.step {q : Int} {L x : List Int} {u : Int} {off k : Nat} {c : Int} {Lk : List Int} (h : OffSt q L x u off k c Lk) (hk : off + k < L.length) {d c' : Int} (hd : 0 ≤ d ∧ d < q) (hc : 0 ≤ c' ∧ c' < q)
    (he : d + dig x k * u + c = dig L (off + k) + c' * q) : OffSt q L x u off (k + 1) c' (Lk.set (off + k) d) := by
  have hl : off + k < Lk.length := by rw [h.len]; exact hk
  refine ⟨by simp [h.len], fun j hj => ?_, h.wd.set _ hd, hc.1, hc.2, ?_⟩
  · rw [dig_set _ hl, if_neg (by omega)]; exact h.out j (by omega)
  · have e1 : V q (Lk.set (off + k) d) off k = V q Lk off k := V_congr fun j hj => by rw [dig_set _ hl, if_neg (by omega)]
    rw [V_succ, V_succ, e1, dig_set _ hl, if_pos rfl, val_take_dig, Int.pow_succ]
    have h1 := h.eq
    have e2 : q ^ k * (d + dig x k * u + c) = q ^ k * (dig L (off + k) + c' * q) := by rw [he]
    grind
theorem pow_pair {s : Nat} (hs : s < 64) : ∃ P R : Nat, 2 ^ s = P ∧ 2 ^ (64 - s) = R ∧ 0 < P ∧ 0 < R ∧ P * R = 18446744073709551616 ∧ ((2 : Int) ^ s = P) ∧ ((2 : Int) ^ (64 - s) = R) :=
  ⟨_, _, rfl, rfl, Nat.two_pow_pos _, Nat.two_pow_pos _, by rw [← Nat.pow_add, show s + (64 - s) = 64 by omega], by rw [Int.natCast_pow]; rfl, by rw [Int.natCast_pow]; rfl⟩
theorem or_low {a b s P : Nat} (hP : 2 ^ s = P) (hb : b < P) : (a * P) ||| b = a * P + b := by
  have := Nat.shiftLeft_add_eq_or_of_lt (i := s) (b := b) (by rw [hP]; exact hb) a
  rw [Nat.shiftLeft_eq, hP] at this
  exact this.symm
theorem up_ex (x : Int) (s : Nat) (o : Int) (hs : s < 64) (hx : 0 ≤ x ∧ x < 18446744073709551616) (ho : 0 ≤ o ∧ o < 2 ^ s) :
    ∃ d c : Int, bits .or .u64 (IntKind.u64.wrap (x * 2 ^ s)) o = d ∧ x / 2 ^ (64 - s) = c ∧ (0 ≤ d ∧ d < 18446744073709551616) ∧ (0 ≤ c ∧ c < 2 ^ s) ∧ d + c * 18446744073709551616 = x * 2 ^ s + o := by
  obtain ⟨P, R, hP, hR, hP0, hR0, hPR, hPi, hRi⟩ := pow_pair hs
  obtain ⟨x, rfl⟩ := Int.eq_ofNat_of_zero_le hx.1
  obtain ⟨o, rfl⟩ := Int.eq_ofNat_of_zero_le ho.1
  rw [hPi] at ho ⊢
  rw [hRi]
  have h1 := Nat.div_add_mod x R
  have h2 : x % R < R := Nat.mod_lt _ hR0
  obtain ⟨c, hc⟩ : ∃ c, x / R = c := ⟨_, rfl⟩
  obtain ⟨t, ht⟩ : ∃ t, x % R = t := ⟨_, rfl⟩
  rw [hc, ht] at h1
  rw [ht] at h2
  have hcP : c < P := by rw [← hc, Nat.div_lt_iff_lt_mul hR0, hPR]; omega
  have hxP : x * P = c * 18446744073709551616 + t * P := by rw [← h1, ← hPR]; grind
  have htP : t * P + P ≤ 18446744073709551616 := by
    have : (t + 1) * P ≤ R * P := Nat.mul_le_mul_right P h2
    rw [Nat.add_mul, Nat.mul_comm R P, hPR] at this; omega
  refine ⟨((t * P + o : Nat) : Int), (c : Int), ?_, ?_, by omega, by omega, ?_⟩
  · rw [← Int.natCast_mul, hxP, IntKind.wrap_u64]
    have e : ((c * 18446744073709551616 + t * P : Nat) : Int) % 18446744073709551616 = ((t * P : Nat) : Int) := by omega
    rw [e, bits_or_u64_nat _ _ (by omega) (by omega), or_low hP (by omega)]
  · rw [← hc, Int.natCast_ediv]
  · rw [← Int.natCast_mul, hxP]; omega
theorem down_ex (x : Int) (s : Nat) (o : Int) (hs : s < 64) (hx : 0 ≤ x ∧ x < 18446744073709551616) (ho : 0 ≤ o ∧ o < 2 ^ s) :
    ∃ d t : Int, bits .or .u64 (x / 2 ^ s) (o * 2 ^ (64 - s)) = d ∧ IntKind.u64.wrap (x * 2 ^ (64 - s)) = t * 2 ^ (64 - s) ∧ (0 ≤ d ∧ d < 18446744073709551616) ∧ (0 ≤ t ∧ t < 2 ^ s) ∧ d * 2 ^ s + t = o * 18446744073709551616 + x := by
  obtain ⟨P, R, hP, hR, hP0, hR0, hPR, hPi, hRi⟩ := pow_pair hs
  obtain ⟨x, rfl⟩ := Int.eq_ofNat_of_zero_le hx.1
  obtain ⟨o, rfl⟩ := Int.eq_ofNat_of_zero_le ho.1
  rw [hPi] at ho ⊢
  rw [hRi]
  have h1 := Nat.div_add_mod x P
  have h2 : x % P < P := Nat.mod_lt _ hP0
  obtain ⟨c, hc⟩ : ∃ c, x / P = c := ⟨_, rfl⟩
  obtain ⟨t, ht⟩ : ∃ t, x % P = t := ⟨_, rfl⟩
  rw [hc, ht] at h1
  rw [ht] at h2
  have hcR : c < R := by rw [← hc, Nat.div_lt_iff_lt_mul hP0, Nat.mul_comm, hPR]; omega
  have hxR : x * R = c * 18446744073709551616 + t * R := by rw [← h1, ← hPR]; grind
  have htR : t * R + R ≤ 18446744073709551616 := by
    have : (t + 1) * R ≤ P * R := Nat.mul_le_mul_right R h2
    rw [Nat.add_mul, hPR] at this; omega
  have hoR : o * R + R ≤ 18446744073709551616 := by
    have : (o + 1) * R ≤ P * R := Nat.mul_le_mul_right R (by omega)
    rw [Nat.add_mul, hPR] at this; omega
  refine ⟨((o * R + c : Nat) : Int), (t : Int), ?_, ?_, by omega, by omega, ?_⟩
  · have e : ((x : Int) / (P : Int)) = ((c : Nat) : Int) := by rw [← hc, Int.natCast_ediv]
    rw [← Int.natCast_mul, e, bits_or_u64_nat _ _ (by omega) (by omega), Nat.or_comm, or_low hR hcR]
  · rw [← Int.natCast_mul, hxR, IntKind.wrap_u64, ← Int.natCast_mul]; omega
  · have e : (o * R + c) * P = o * 18446744073709551616 + c * P := by rw [← hPR]; grind
    have e2 : c * P + t = x := by rw [Nat.mul_comm]; exact h1
    rw [← Int.natCast_mul, e]; omega
/-- the first k digits of x, times P, were laid into L from off on; c is carried -/
structure UpSt (q : Int) (L x : List Int) (P : Int) (off k : Nat) (c : Int) (Lk : List Int) : Prop where
  len : Lk.length = L.length
  out : ∀ j, j < off ∨ off + k ≤ j → dig Lk j = dig L j
  wd : Wd q Lk
  c0 : 0 ≤ c
  c1 : c < P
  eq : V q Lk off k + c * q ^ k = P * val q (x.take k)
theorem UpSt.start {q : Int} {L x : List Int} {P : Int} (off : Nat) (h : Wd q L) (hq : 0 < P) : UpSt q L x P off 0 0 L :=
  ⟨rfl, fun _ _ => rfl, h, Int.le_refl _, hq, by simp [V_zero, val]⟩
theorem UpSt.step {q : Int} {L x : List Int} {P : Int} {off k : Nat} {c : Int} {Lk : List Int} (h : UpSt q L x P off k c Lk) (hk : off + k < L.length) {d c' : Int} (hd : 0 ≤ d ∧ d < q) (hc : 0 ≤ c' ∧ c' < P)
    (he : d + c' * q = dig x k * P + c) : UpSt q L x P off (k + 1) c' (Lk.set (off + k) d) := by
  have hl : off + k < Lk.length := by rw [h.len]; exact hk
  refine ⟨by simp [h.len], fun j hj => ?_, h.wd.set _ hd, hc.1, hc.2, ?_⟩
  · rw [dig_set _ hl, if_neg (by omega)]; exact h.out j (by omega)
  · have e1 : V q (Lk.set (off + k) d) off k = V q Lk off k := V_congr fun j hj => by rw [dig_set _ hl, if_neg (by omega)]
    rw [V_succ, e1, dig_set _ hl, if_pos rfl, val_take_dig, Int.pow_succ]
    have h1 := h.eq
    have e2 : q ^ k * (d + c' * q) = q ^ k * (dig x k * P + c) := by rw [he]
    grind
/-- what upBits leaves -/
def Upped (w w' : World) (e : Ending) (g off n : Nat) (L xs : List Int) (P : Int) : Prop :=
  ∃ c L', e = .returned (.int .u64 c) ∧ Blk w' g .u64 73 L' ∧ UpSt 18446744073709551616 L xs P off n c L' ∧ Touch g w w'
set_option maxRecDepth 100000 in
set_option maxHeartbeats 1600000 in
theorem upBits_any (g off n cap : Nat) (bo : Option Addr) (m cb : Nat) (L xs : List Int) (s : Nat) (w : World) (hs : s < 64) (hb : Blk w g .u64 73 L) (hW : Wd 18446744073709551616 L) (hn : off + n ≤ L.length) (hnc : n ≤ cap) (hcap : cap ≤ 4611686018427387904)
    (hy : RowAt w .u64 bo m cb xs) (hyW : Wd 18446744073709551616 xs) (hm : m ≤ n) (hap : Apart bo m g off n) :
    Calls Tryz.prog 105 #[.slice (some ⟨g, off, none⟩) n cap, .slice bo m cb, .int .u64 (s : Int)] w fun e w' => Upped w w' e g off m L xs (2 ^ s) := by
  have HH : Hid (Blk w g .u64 73 L ∧ Wd 18446744073709551616 L ∧ off + n ≤ L.length ∧ Wd 18446744073709551616 xs ∧ Apart bo m g off n) := ⟨hb, hW, hn, hyW, hap⟩
  clear hb hW hn hyW hap
  go_enter Tryz.func105, Tryz.ntmps105
  go_wp2
  go_loopw [7, 12] (fun c i wr => ∃ (k : Nat) (cv : Int) (Lk : List Int), k ≤ m ∧ i = .int .i64 k ∧ c = .int .u64 cv ∧ UpSt 18446744073709551616 L xs (2 ^ s) off k cv Lk ∧ Blk wr g .u64 73 Lk ∧ Touch g w wr) (fun _ i _ => m - (intOf i).toNat)
  case atStart => exact ⟨0, 0, L, Nat.zero_le _, rfl, rfl, UpSt.start off HH.out.2.1 (Int.pow_pos (by decide)), HH.out.1, Touch.refl _ _⟩
  case round =>
    obtain ⟨k, cv, Lk, hk, rfl, rfl, hst, hbl, hto⟩ := hrel
    have HS : Hid (UpSt 18446744073709551616 L xs (2 ^ s) off k cv Lk ∧ Blk wr g .u64 73 Lk ∧ Touch g w wr) := ⟨hst, hbl, hto⟩
    by_cases hlt : k < m
    · have hyr : RowAt wr .u64 bo m cb xs := row_touch hy HH.out.1 hbl hto HH.out.2.2.2.2 (fun j hj => hst.out j (by omega)) hst.len
      obtain ⟨b', o', rfl, hb', hc'⟩ := hyr.get (by omega)
      have hcy := hc' k hlt
      have hcz := hbl.cell (j := off + k) (by have := hst.len; have := HH.out.2.2.1; omega)
      have hfz := hbl.frozen (off + k)
      have hgs : g < wr.heap.size := hbl.lt
      have bx := HH.out.2.2.2.1.dig (by decide) k
      obtain ⟨z, hz⟩ : ∃ z, dig Lk (off + k) = z := ⟨_, rfl⟩
      obtain ⟨x, hx⟩ : ∃ x, dig xs k = x := ⟨_, rfl⟩
      rw [hz] at hcz
      rw [hx] at hcy bx
      obtain ⟨d, c, hd, hc, hd1, hc1, he⟩ := up_ex x s cv hs bx ⟨hst.c0, hst.c1⟩
      have HZ : Hid (dig xs k = x) := hx
      have HD : Hid ((0 ≤ d ∧ d < 18446744073709551616) ∧ (0 ≤ c ∧ c < 2 ^ s) ∧ d + c * 18446744073709551616 = x * 2 ^ s + cv) := ⟨hd1, hc1, he⟩
      clear hd1 hc1 he hst hbl hto hyr hy hc' bx hz hx
      go_wp2
      go_roundw
      case rel => exact ⟨k + 1, c, Lk.set (off + k) d, by omega, by go_num, by go_num, HS.out.1.step (by have := HH.out.2.2.1; omega) HD.out.1 HD.out.2.1 (by rw [HZ.out]; exact HD.out.2.2), HS.out.2.1.set _ _, HS.out.2.2.set _ _⟩
      case measure => simp [intOf]; omega
    · obtain rfl : k = m := by omega
      clear hst hbl hto hy
      go_wp2
      go_ret
      exact ⟨cv, Lk, rfl, HS.out.2.1, HS.out.1, HS.out.2.2⟩
/-- what downBits leaves -/
def Downed (w w' : World) (e : Ending) (g off n : Nat) (L xs : List Int) (P : Int) : Prop :=
  ∃ r L', e = .returned (.tuple #[]) ∧ Blk w' g .u64 73 L' ∧ QuoSt 18446744073709551616 L xs P off n 0 r L' ∧ Touch g w w'
set_option maxRecDepth 100000 in
set_option maxHeartbeats 1600000 in
theorem downBits_any (g off n cap : Nat) (bo : Option Addr) (cb : Nat) (L xs : List Int) (s : Nat) (w : World) (hs : s < 64) (hb : Blk w g .u64 73 L) (hW : Wd 18446744073709551616 L) (hn : off + n ≤ L.length) (hnc : n ≤ cap) (hcap : cap ≤ 4611686018427387904)
    (hx : RowAt w .u64 bo n cb xs) (hxW : Wd 18446744073709551616 xs) (hap : Apart bo n g off n) :
    Calls Tryz.prog 119 #[.slice (some ⟨g, off, none⟩) n cap, .slice bo n cb, .int .u64 (s : Int)] w fun e w' => Downed w w' e g off n L xs (2 ^ s) := by
  have HH : Hid (Blk w g .u64 73 L ∧ Wd 18446744073709551616 L ∧ off + n ≤ L.length ∧ Wd 18446744073709551616 xs ∧ Apart bo n g off n) := ⟨hb, hW, hn, hxW, hap⟩
  clear hb hW hn hxW hap
  go_enter Tryz.func119, Tryz.ntmps119
  go_wp2
  go_loopw [6, 7] (fun c i wr => ∃ (k : Nat) (r : Int) (Lk : List Int), k ≤ n ∧ i = .int .i64 ((k : Int) - 1) ∧ c = .int .u64 (r * 2 ^ (64 - s)) ∧ QuoSt 18446744073709551616 L xs (2 ^ s) off n k r Lk ∧ Blk wr g .u64 73 Lk ∧ Touch g w wr) (fun _ i _ => (intOf i + 1).toNat)
  case atStart => exact ⟨n, 0, L, Nat.le_refl _, by go_num, by rw [Int.zero_mul], QuoSt.start off n HH.out.2.1 (Int.pow_pos (by decide)), HH.out.1, Touch.refl _ _⟩
  case round =>
    obtain ⟨k, r, Lk, hk, rfl, rfl, hst, hbl, hto⟩ := hrel
    have HS : Hid (QuoSt 18446744073709551616 L xs (2 ^ s) off n k r Lk ∧ Blk wr g .u64 73 Lk ∧ Touch g w wr) := ⟨hst, hbl, hto⟩
    rcases k with _ | k
    · clear hst hbl hto hx
      go_wp2
      go_end0
      exact ⟨r, Lk, rfl, HS.out.2.1, HS.out.1, HS.out.2.2⟩
    · have hxr : RowAt wr .u64 bo n cb xs := row_touch hx HH.out.1 hbl hto HH.out.2.2.2.2 (fun j hj => hst.out j (by omega)) hst.len
      obtain ⟨b', o', rfl, hb', hc'⟩ := hxr.get (by omega)
      have hcx := hc' k (by omega)
      have hcz := hbl.cell (j := off + k) (by have := hst.len; have := HH.out.2.2.1; omega)
      have hfz := hbl.frozen (off + k)
      have hgs : g < wr.heap.size := hbl.lt
      have bx := HH.out.2.2.2.1.dig (by decide) k
      obtain ⟨x, hxe⟩ : ∃ x, dig xs k = x := ⟨_, rfl⟩
      obtain ⟨z, hz⟩ : ∃ z, dig Lk (off + k) = z := ⟨_, rfl⟩
      rw [hz] at hcz
      rw [hxe] at hcx bx
      have HX : Hid (dig xs k = x) := hxe
      obtain ⟨d, t, hd, ht, hd1, ht1, he⟩ := down_ex x s r hs bx ⟨hst.r0, hst.r1⟩
      have HD : Hid ((0 ≤ d ∧ d < 18446744073709551616) ∧ (0 ≤ t ∧ t < 2 ^ s) ∧ d * 2 ^ s + t = r * 18446744073709551616 + x) := ⟨hd1, ht1, he⟩
      have hkk : ((k + 1 : Nat) : Int) - 1 = (k : Int) := by omega
      rw [hkk]
      clear hd1 ht1 he hst hbl hto hxr hx hc' bx hxe hz hkk
      obtain ⟨tt, htt⟩ : ∃ tt, t * 2 ^ (64 - s) = tt := ⟨_, rfl⟩
      have HT : Hid (t * 2 ^ (64 - s) = tt) := htt
      obtain ⟨rr, hrr⟩ : ∃ rr, r * 2 ^ (64 - s) = rr := ⟨_, rfl⟩
      rw [hrr] at hd ⊢
      rw [htt] at ht
      clear htt hrr
      go_wp2
      go_roundw
      case rel => exact ⟨k, t, Lk.set (off + k) d, by omega, by go_num, by rw [HT.out], HS.out.1.step (by omega) HH.out.2.2.1 HD.out.1 HD.out.2.1 (by rw [HX.out]; exact HD.out.2.2), Blk.set HS.out.2.1 _ _, HS.out.2.2.set _ _⟩
      case measure => simp [intOf]
end Go.Proofs.YtdanaebhjkbfmaaGreat
/- Walks: guessLimb. -/
namespace Go.Proofs.YtdanaebhjkbfmaaGreat
open Go.RowKit
set_option linter.unusedVariables false
set_option linter.unusedSimpArgs false
/-- g is the quotient's limb by the upper limbs, at most the greatest one -/
def IsGuess (u2 u1 u0 v1 v0 g : Int) : Prop := 0 ≤ g ∧ g < 18446744073709551616 ∧ g * (v1 * 18446744073709551616 + v0) ≤ (u2 * 18446744073709551616 + u1) * 18446744073709551616 + u0 ∧ ((u2 * 18446744073709551616 + u1) * 18446744073709551616 + u0 < (g + 1) * (v1 * 18446744073709551616 + v0) ∨ g = 18446744073709551615)
structure GSt (u2 u1 u0 v1 v0 g r : Int) : Prop where
  eq : g * v1 + r = u2 * 18446744073709551616 + u1
  r0 : 0 ≤ r
  r1 : r < 18446744073709551616
  g0 : 0 ≤ g
  g1 : g < 18446744073709551616
  up : (u2 * 18446744073709551616 + u1) * 18446744073709551616 + u0 < (g + 1) * (v1 * 18446744073709551616 + v0) ∨ g = 18446744073709551615
theorem GSt.done {u2 u1 u0 v1 v0 g r hi lo : Int} (h : GSt u2 u1 u0 v1 v0 g r) (hm : hi * 18446744073709551616 + lo = g * v0) (l0 : 0 ≤ lo) (l1 : lo < 18446744073709551616) (k0 : 0 ≤ u0) (k1 : u0 < 18446744073709551616) (ht : hi < r ∨ hi = r ∧ lo ≤ u0) : IsGuess u2 u1 u0 v1 v0 g := by
  refine ⟨h.g0, h.g1, ?_, h.up⟩
  have e : g * (v1 * 18446744073709551616 + v0) = (g * v1) * 18446744073709551616 + g * v0 := by grind
  have := h.eq
  rw [e, ← hm]; omega
theorem GSt.less {u2 u1 u0 v1 v0 g r hi lo : Int} (h : GSt u2 u1 u0 v1 v0 g r) (hm : hi * 18446744073709551616 + lo = g * v0) (l0 : 0 ≤ lo) (l1 : lo < 18446744073709551616) (k0 : 0 ≤ u0) (k1 : u0 < 18446744073709551616) (h1 : ¬ hi < r) (h2 : ¬ (hi = r ∧ lo ≤ u0)) :
    1 ≤ g ∧ (u2 * 18446744073709551616 + u1) * 18446744073709551616 + u0 < (g - 1 + 1) * (v1 * 18446744073709551616 + v0) ∧ (g - 1) * v1 + (r + v1) = u2 * 18446744073709551616 + u1 := by
  have e : g * (v1 * 18446744073709551616 + v0) = (g * v1) * 18446744073709551616 + g * v0 := by grind
  have h3 := h.eq
  have h4 : (u2 * 18446744073709551616 + u1) * 18446744073709551616 + u0 < g * (v1 * 18446744073709551616 + v0) := by rw [e, ← hm]; omega
  refine ⟨?_, by rw [Int.sub_add_cancel]; exact h4, by rw [Int.sub_mul]; omega⟩
  by_cases hg : g = 0
  · subst hg
    rw [Int.zero_mul] at h3 hm
    have := h.r0
    omega
  · have := h.g0; omega
theorem GSt.next {u2 u1 u0 v1 v0 g r d : Int} (h : GSt u2 u1 u0 v1 v0 g r) (hl : 1 ≤ g ∧ (u2 * 18446744073709551616 + u1) * 18446744073709551616 + u0 < (g - 1 + 1) * (v1 * 18446744073709551616 + v0) ∧ (g - 1) * v1 + (r + v1) = u2 * 18446744073709551616 + u1) (hd : d = r + v1) (hb : 0 ≤ d ∧ d < 18446744073709551616) : GSt u2 u1 u0 v1 v0 (g - 1) d := by
  have := h.g1
  exact ⟨by rw [hd]; exact hl.2.2, hb.1, hb.2, by omega, by omega, Or.inl hl.2.1⟩
theorem GSt.over {u2 u1 u0 v1 v0 g r : Int} (h : GSt u2 u1 u0 v1 v0 g r) (hl : 1 ≤ g ∧ (u2 * 18446744073709551616 + u1) * 18446744073709551616 + u0 < (g - 1 + 1) * (v1 * 18446744073709551616 + v0) ∧ (g - 1) * v1 + (r + v1) = u2 * 18446744073709551616 + u1) (ho : 18446744073709551616 ≤ r + v1) (k0 : 0 ≤ u0) (k1 : 0 ≤ v0) (k2 : v0 < 18446744073709551616) : IsGuess u2 u1 u0 v1 v0 (g - 1) := by
  have h1 := h.g1
  refine ⟨by omega, by omega, ?_, Or.inl hl.2.1⟩
  have e : (g - 1) * (v1 * 18446744073709551616 + v0) = ((g - 1) * v1) * 18446744073709551616 + (g - 1) * v0 := by grind
  have e2 : (g - 1) * v0 ≤ 18446744073709551615 * 18446744073709551615 := Int.mul_le_mul (by omega) (by omega) k1 (by decide)
  have e3 := hl.2.2
  rw [e]; omega
theorem GSt.first {u2 u1 u0 v1 v0 d r : Int} (he : d * v1 + r = u2 * 18446744073709551616 + u1) (hd : 0 ≤ d ∧ d < 18446744073709551616) (hr : 0 ≤ r ∧ r < v1) (hv : v1 < 18446744073709551616) (k0 : u0 < 18446744073709551616) (k1 : 0 ≤ v0) : GSt u2 u1 u0 v1 v0 d r := by
  refine ⟨he, hr.1, by omega, hd.1, hd.2, Or.inl ?_⟩
  have e : (d + 1) * (v1 * 18446744073709551616 + v0) = (d * v1 + v1) * 18446744073709551616 + (d + 1) * v0 := by grind
  have e2 : 0 ≤ (d + 1) * v0 := Int.mul_nonneg (by omega) k1
  rw [e]; omega
theorem IsGuess.top {u1 u0 v1 v0 : Int} (ho : 18446744073709551616 ≤ u1 + v1) (k0 : 0 ≤ u0) (k1 : 0 ≤ v0) (k2 : v0 < 18446744073709551616) : IsGuess v1 u1 u0 v1 v0 18446744073709551615 := by
  refine ⟨by decide, by decide, ?_, Or.inr rfl⟩
  omega
theorem GSt.second {u1 u0 v1 v0 r : Int} (hr : r = u1 + v1) (h0 : 0 ≤ r) (h1 : r < 18446744073709551616) : GSt v1 u1 u0 v1 v0 18446744073709551615 r :=
  ⟨by omega, h0, h1, by decide, by decide, Or.inr rfl⟩
/-- there is one such limb -/
theorem IsGuess.one {u2 u1 u0 v1 v0 g g' : Int} (hv : 0 < v1) (hv0 : 0 ≤ v0) (h : IsGuess u2 u1 u0 v1 v0 g) (h' : IsGuess u2 u1 u0 v1 v0 g') : g = g' := by
  obtain ⟨a1, a2, a3, a4⟩ := h
  obtain ⟨b1, b2, b3, b4⟩ := h'
  have hD : 0 < v1 * 18446744073709551616 + v0 := by omega
  obtain ⟨D, hDe⟩ : ∃ D, v1 * 18446744073709551616 + v0 = D := ⟨_, rfl⟩
  obtain ⟨U, hU⟩ : ∃ U, (u2 * 18446744073709551616 + u1) * 18446744073709551616 + u0 = U := ⟨_, rfl⟩
  rw [hDe] at hD a3 a4 b3 b4; rw [hU] at a3 a4 b3 b4
  have c1 : g ≤ g' := by
    rcases b4 with h | h
    · have : g * D < (g' + 1) * D := Int.lt_of_le_of_lt a3 h
      have := Int.lt_of_mul_lt_mul_right this (by omega)
      omega
    · omega
  have c2 : g' ≤ g := by
    rcases a4 with h | h
    · have : g' * D < (g + 1) * D := Int.lt_of_le_of_lt b3 h
      have := Int.lt_of_mul_lt_mul_right this (by omega)
      omega
    · omega
  omega
end Go.Proofs.YtdanaebhjkbfmaaGreat
/-
  Walks: timesPlain.
-/
namespace Go.Proofs.YtdanaebhjkbfmaaGreat
open Go.RowKit
set_option linter.unusedVariables false
set_option linter.unusedSimpArgs false
/-- x times the first k digits of y lies in Lk from off on; above it noughts -/
structure ProdSt (q : Int) (L x y : List Int) (off lx ly k : Nat) (Lk : List Int) : Prop where
  len : Lk.length = L.length
  out : ∀ j, j < off ∨ off + (lx + ly) ≤ j → dig Lk j = dig L j
  wd : Wd q Lk
  zero : ∀ j, off + (lx + k) ≤ j → j < off + (lx + ly) → dig Lk j = 0
  eq : V q Lk off (lx + k) = val q x * val q (y.take k)
theorem dig_splice {L cs : List Int} {off : Nat} (h : off + cs.length ≤ L.length) (j : Nat) : dig (splice L off cs) j = if j < off then dig L j else if j < off + cs.length then dig cs (j - off) else dig L j := by
  unfold splice dig
  simp only [List.getD_eq_getElem?_getD, List.getElem?_append, List.length_take, List.getElem?_take, List.getElem?_drop]
  rw [Nat.min_eq_left (by omega)]
  by_cases h1 : j < off
  · simp [h1]
  · by_cases h2 : j < off + cs.length
    · rw [if_neg h1, if_neg h1, if_pos h2, if_pos (by omega)]
    · rw [if_neg h1, if_neg h1, if_neg h2, if_neg (by omega)]
      congr 2; omega
theorem dig_zeros (n j : Nat) : dig (List.replicate n (0 : Int)) j = 0 := by
  unfold dig; simp only [List.getD_eq_getElem?_getD, List.getElem?_replicate]; split <;> rfl
theorem wd_splice {q : Int} {L cs : List Int} {off : Nat} (h : Wd q L) (hc : Wd q cs) : Wd q (splice L off cs) := by
  unfold splice; exact (h.take _).append (hc.append (h.drop _))
theorem wd_zeros {q : Int} (hq : 0 < q) (n : Nat) : Wd q (List.replicate n 0) := fun z hz => by
  have := List.eq_of_mem_replicate hz; subst this; exact ⟨Int.le_refl _, hq⟩
theorem V_zeros {q : Int} {L : List Int} {off k : Nat} (h : ∀ j, j < k → dig L (off + j) = 0) : V q L off k = 0 := by
  induction k with
  | zero => exact V_zero q L off
  | succ k ih => rw [V_succ, ih (fun j hj => h j (by omega)), h k (by omega)]; simp
theorem ProdSt.start {q : Int} (hq : 0 < q) {L x y : List Int} {off lx ly : Nat} (hW : Wd q L) (hl : off + (lx + ly) ≤ L.length) : ProdSt q L x y off lx ly 0 (splice L off (List.replicate (lx + ly) 0)) := by
  have hd := fun j => dig_splice (L := L) (cs := List.replicate (lx + ly) (0 : Int)) (off := off) (by simpa using hl) j
  simp only [List.length_replicate] at hd
  refine ⟨length_splice _ _ _ (by simpa using hl), fun j hj => ?_, wd_splice hW (wd_zeros hq _), fun j h1 h2 => ?_, ?_⟩
  · rw [hd]; rcases hj with h | h
    · rw [if_pos h]
    · rw [if_neg (by omega), if_neg (by omega)]
  · rw [hd, if_neg (by omega), if_pos h2, dig_zeros]
  · rw [V_zeros (fun j hj => by rw [hd, if_neg (by omega), if_pos (by omega), dig_zeros])]
    simp [val]
/-- a nought of y -/
theorem ProdSt.skip {q : Int} {L x y : List Int} {off lx ly k : Nat} {Lk : List Int} (h : ProdSt q L x y off lx ly k Lk) (hk : k < ly) (hy : dig y k = 0) : ProdSt q L x y off lx ly (k + 1) Lk := by
  refine ⟨h.len, h.out, h.wd, fun j h1 h2 => h.zero j (by omega) h2, ?_⟩
  rw [← Nat.add_assoc, V_succ, h.zero (off + (lx + k)) (by omega) (by omega), val_take_dig, hy, h.eq]; simp
theorem ProdSt.step {q : Int} {L x y : List Int} {off lx ly k : Nat} {Lk L' : List Int} {c : Int} (h : ProdSt q L x y off lx ly k Lk) (hl : off + (lx + ly) ≤ L.length) (hk : k < ly) (hx : x.length ≤ lx)
    (hm : MulSt q Lk x (dig y k) (off + k) lx c L') : ProdSt q L x y off lx ly (k + 1) (L'.set (off + (k + lx)) c) := by
  have hlen : off + (k + lx) < L'.length := by rw [hm.len, h.len]; omega
  refine ⟨by simp [hm.len, h.len], fun j hj => ?_, hm.wd.set _ ⟨hm.c0, hm.c1⟩, fun j h1 h2 => ?_, ?_⟩
  · rw [dig_set _ hlen, if_neg (by omega), hm.out j (by omega)]; exact h.out j hj
  · rw [dig_set _ hlen, if_neg (by omega), hm.out j (by omega)]; exact h.zero j (by omega) h2
  · have e0 : lx + (k + 1) = k + (lx + 1) := by omega
    rw [e0, V_split]
    have e1 : V q (L'.set (off + (k + lx)) c) off k = V q Lk off k := V_congr fun j hj => by rw [dig_set _ hlen, if_neg (by omega), hm.out _ (by omega)]
    have e2 : V q (L'.set (off + (k + lx)) c) (off + k) lx = V q L' (off + k) lx := V_congr fun j hj => by rw [dig_set _ hlen, if_neg (by omega)]
    rw [V_succ, e1, e2, dig_set _ hlen, if_pos (by omega)]
    have e3 := hm.eq
    rw [List.take_of_length_le hx] at e3
    have e4 := h.eq
    have e5 : lx + k = k + lx := by omega
    rw [e5, V_split] at e4
    rw [val_take_dig]
    have e6 : q ^ lx * c = c * q ^ lx := Int.mul_comm _ _
    rw [e6, e3]
    grind
/-- what timesPlain leaves -/
def Product (w w' : World) (e : Ending) (g off n : Nat) (L : List Int) (T : Int) : Prop :=
  ∃ L', e = .returned (.tuple #[]) ∧ Blk w' g .u64 73 L' ∧ L'.length = L.length ∧ Wd 18446744073709551616 L' ∧ (∀ j, j < off ∨ off + n ≤ j → dig L' j = dig L j) ∧ V 18446744073709551616 L' off n = T ∧ Touch g w w'
set_option maxRecDepth 100000 in
set_option maxHeartbeats 2000000 in
theorem timesPlain_any (g off cap : Nat) (ao : Option Addr) (lx ca : Nat) (bo : Option Addr) (ly cb : Nat) (L xs ys : List Int) (w : World) (hb : Blk w g .u64 73 L) (hW : Wd 18446744073709551616 L) (hn : off + (lx + ly) ≤ L.length) (hnc : lx + ly ≤ cap) (hcap : cap ≤ 4611686018427387904)
    (hx : RowAt w .u64 ao lx ca xs) (hxW : Wd 18446744073709551616 xs) (hy : RowAt w .u64 bo ly cb ys) (hyW : Wd 18446744073709551616 ys) (hlx : 0 < lx) (hax : Apart ao lx g off (lx + ly)) (hay : Apart bo ly g off (lx + ly)) :
    Calls Tryz.prog 114 #[.slice (some ⟨g, off, none⟩) (lx + ly) cap, .slice ao lx ca, .slice bo ly cb] w fun e w' => Product w w' e g off (lx + ly) L (val 18446744073709551616 xs * val 18446744073709551616 ys) := by
  obtain ⟨i0, hi, hz0, hz1, hz2⟩ := info_parts info64
  have HH : Hid (Blk w g .u64 73 L ∧ Wd 18446744073709551616 L ∧ off + (lx + ly) ≤ L.length ∧ (Wd 18446744073709551616 xs ∧ Wd 18446744073709551616 ys) ∧ Apart ao lx g off (lx + ly) ∧ Apart bo ly g off (lx + ly)) := ⟨hb, hW, hn, ⟨hxW, hyW⟩, hax, hay⟩
  have HR : Hid (RowAt w .u64 ao lx ca xs ∧ RowAt w .u64 bo ly cb ys) := ⟨hx, hy⟩
  have hpos : Hid (0 < lx + ly) := by show _ < _; omega
  clear hb hW hn hxW hyW hax hay hx hy
  go_enter Tryz.func114, Tryz.ntmps114
  go_wp2_with (refine wpList_clear rfl (.tmp 8) 25 73 rfl Tryz.underlying25 i0 .u64 hi hz0 g off (lx + ly) cap hpos.out rfl 73 L HH.out.1 HH.out.2.2.1 ?_; intro w1 HB1)
  go_loopw [11] (fun i wr => ∃ (k : Nat) (Lk : List Int), k ≤ ly ∧ i = .int .i64 k ∧ ProdSt 18446744073709551616 L xs ys off lx ly k Lk ∧ Blk wr g .u64 73 Lk ∧ Touch g w wr) (fun i _ => ly - (intOf i).toNat)
  case atStart => exact ⟨0, _, Nat.zero_le _, rfl, ProdSt.start (by decide) HH.out.2.1 HH.out.2.2.1, HB1.out.1, HB1.out.2⟩
  case round =>
    obtain ⟨k, Lk, hk, rfl, hst, hbl, hto⟩ := hrel
    have HS : Hid (ProdSt 18446744073709551616 L xs ys off lx ly k Lk ∧ Blk wr g .u64 73 Lk ∧ Touch g w wr) := ⟨hst, hbl, hto⟩
    by_cases hlt : k < ly
    · have hyr : RowAt wr .u64 bo ly cb ys := row_touch HR.out.2 HH.out.1 hbl hto HH.out.2.2.2.2.2 (fun j hj => hst.out j (by omega)) hst.len
      have hxr : RowAt wr .u64 ao lx ca xs := row_touch HR.out.1 HH.out.1 hbl hto HH.out.2.2.2.2.1 (fun j hj => hst.out j (by omega)) hst.len
      have HXR : Hid (RowAt wr .u64 ao lx ca xs) := hxr
      obtain ⟨b', o', rfl, hb', hc'⟩ := hyr.get (by omega)
      have hcy := hc' k hlt
      obtain ⟨y, hyv⟩ : ∃ y, dig ys k = y := ⟨_, rfl⟩
      rw [hyv] at hcy
      have HY : Hid (dig ys k = y) := hyv
      have hyb : 0 ≤ y ∧ y < 18446744073709551616 := hyv ▸ HH.out.2.2.2.1.2.dig (by decide) k
      clear hc' hyr hxr hyv hst hto
      by_cases hy0 : y = 0
      · subst hy0
        clear hbl
        go_wp2
        go_roundw
        case rel => exact ⟨k + 1, Lk, by omega, by go_num, HS.out.1.skip hlt HY.out, HS.out.2.1, HS.out.2.2⟩
        case measure => simp [intOf]; omega
      · have hy1 : (y != 0) = true := by simpa using hy0
        have hck : k < cap := by omega
        have hap2 : Hid (Apart ao lx g (off + k) lx) := fun b o e t ht k' hk' e' => by
          have := HH.out.2.2.2.2.1 b o e t ht (k + k') (by omega) e'; omega
        clear hbl hy0
        have hlk : Hid (off + (lx + ly) ≤ Lk.length) := by show _ ≤ _; rw [HS.out.1.len]; exact HH.out.2.2.1
        go_wp2_with (go_at_call 123; refine (addTimes_any g (off + k) lx (cap - k) ao lx ca Lk xs y wr HS.out.2.1 HS.out.1.wd (by have := hlk.out; omega) (by omega) (by omega) HXR.out HH.out.2.2.2.1.1 (Nat.le_refl _) hap2.out hyb).mono ?_; rintro e w2 ⟨c, L', rfl, hb2, hm2, ht2⟩; have HM : Hid (MulSt 18446744073709551616 Lk xs y (off + k) lx c L' ∧ Touch g wr w2 ∧ Blk w2 g .u64 73 L') := ⟨hm2, ht2, hb2⟩; have hcz := hb2.cell (j := off + (k + lx)) (by have h1 := hm2.len; have h2 := hlk.out; omega); have hfz := hb2.frozen (off + (k + lx)); have hgs : g < w2.heap.size := hb2.lt; clear hm2 ht2 hb2)
        go_roundw
        case rel => exact ⟨k + 1, L'.set (off + (k + lx)) c, by omega, by go_num, HS.out.1.step HH.out.2.2.1 hlt (by rw [← HR.out.1.hlen]; exact Nat.le_refl _) (HY.out ▸ HM.out.1), HM.out.2.2.set _ _, (HS.out.2.2.trans HM.out.2.1).set _ _⟩
        case measure => simp [intOf]; omega
    · obtain rfl : k = ly := by omega
      clear hst hbl hto
      go_wp2
      go_end0
      refine ⟨Lk, rfl, HS.out.2.1, HS.out.1.len, HS.out.1.wd, HS.out.1.out, ?_, HS.out.2.2⟩
      have := HS.out.1.eq
      rw [List.take_of_length_le (by rw [← HR.out.2.hlen]; exact Nat.le_refl _)] at this
      exact this
end Go.Proofs.YtdanaebhjkbfmaaGreat
/-
  Walks: timesLimbs, times (the shorter one below 40 limbs).
-/
namespace Go.Proofs.YtdanaebhjkbfmaaGreat
open Go.RowKit
set_option linter.unusedVariables false
set_option linter.unusedSimpArgs false
theorem mag_of_one {n : Nat} (h : (mag n).length = 1) : mag n = [(n : Int)] ∧ 0 < n ∧ n < 18446744073709551616 := by
  have h1 : 0 < n := mag_len_pos.1 (by omega)
  have h2 : n < 18446744073709551616 := by
    by_cases e : n < 18446744073709551616
    · exact e
    · have := mag_two (n := n) (by omega); omega
  exact ⟨mag_one h1 h2, h1, h2⟩
set_option maxRecDepth 100000 in
set_option maxHeartbeats 400000 in
theorem timesLimbs_any (u v : Int) (a b : Nat) (w : World) (hu : u = (a : Int)) (hv : v = (b : Int)) (ha : 0 < a) (hb : 0 < b) (ha' : a < 18446744073709551616) (hb' : b < 18446744073709551616) :
    Calls Tryz.prog 113 #[.int .u64 u, .int .u64 v] w fun e w' => NewNat w w' e (a * b) := by
  obtain ⟨hi, lo, hmul, hhi, hlo, hml⟩ := mul64_ex u v (by omega) (by omega)
  have hp : 0 < a * b := Nat.mul_pos ha hb
  rw [hu, hv, ← Int.natCast_mul] at hml
  obtain ⟨P, hP⟩ : ∃ P, a * b = P := ⟨_, rfl⟩
  rw [hP] at hml hp ⊢
  obtain ⟨h1, h2⟩ := hhi
  obtain ⟨h3, h4⟩ := hlo
  by_cases h0 : hi = 0
  · subst h0
    have HP : Hid (mag P = [lo]) := mag_of (Wd.one ⟨h3, h4⟩) (by simp [Can]; omega) (by simp [val]; omega)
    have hbk : Hid (Blk (w.alloc (.cells #[.int .u64 lo] 73)) w.heap.size .u64 73 [lo]) := Blk.new w .u64 73 [lo]
    clear hml hu hv hP
    go_enter Tryz.func113, Tryz.ntmps113
    go_wp2_with (go_at_call 122; refine (hmul _).mono ?_; rintro e w' ⟨rfl, rfl⟩)
    go_ret
    exact ⟨_, _, _, rfl, by rw [HP.out]; exact Own.whole hbk.out (Nat.le_refl _) rfl, (Below.refl _ _).alloc (Nat.le_refl _) _⟩
  · have h0' : (hi == 0) = false := by simpa using h0
    have HP : Hid (mag P = [lo, hi]) := mag_of (Wd.cons ⟨h3, h4⟩ (Wd.one ⟨h1, by omega⟩)) (by simp [Can]; omega) (by simp [val]; omega)
    have hbk : Hid (Blk (w.alloc (.cells #[.int .u64 lo, .int .u64 hi] 73)) w.heap.size .u64 73 [lo, hi]) := Blk.new w .u64 73 [lo, hi]
    clear hml hu hv hP h0
    go_enter Tryz.func113, Tryz.ntmps113
    go_wp2_with (go_at_call 122; refine (hmul _).mono ?_; rintro e w' ⟨rfl, rfl⟩)
    go_ret
    exact ⟨_, _, _, rfl, by rw [HP.out]; exact Own.whole hbk.out (Nat.le_refl _) rfl, (Below.refl _ _).alloc (Nat.le_refl _) _⟩
set_option maxRecDepth 100000 in
set_option maxHeartbeats 2000000 in
theorem times_small (ao bo : Option Addr) (la ca lb cb : Nat) (a b : Nat) (w : World) (hxa : RowAt w .u64 ao la ca (mag a)) (hxb : RowAt w .u64 bo lb cb (mag b)) (hl : la ≤ 4294967296) (hl' : lb ≤ 4294967296) (h40 : la < 40 ∨ lb < 40) :
    Calls Tryz.prog 104 #[.slice ao la ca, .slice bo lb cb] w fun e w' => NewNat w w' e (a * b) := by
  obtain ⟨i0, hi, hz0, hz1, hz2⟩ := info_parts info64
  by_cases hlt : la < lb
  · have h40' : la < 40 := by omega
    clear h40
    have HX : Hid (RowAt w .u64 bo lb cb (mag b) ∧ RowAt w .u64 ao la ca (mag a)) := ⟨hxb, hxa⟩
    clear hxa hxb
    by_cases h0 : la = 0
    · have e0 : a = 0 := by
        have := HX.out.2.hlen; rw [h0] at this
        exact (limbs_eq_nil (q := 18446744073709551616) (by decide)).1 (List.eq_nil_of_length_eq_zero this.symm)
      have HP : Hid (a * b = 0) := by show _ = _; rw [e0]; simp
      subst h0
      clear e0
      go_enter Tryz.func104, Tryz.ntmps104
      go_wp2
      go_ret
      exact ⟨none, 0, 0, rfl, by rw [HP.out]; exact Own.none_, Below.refl _ _⟩
    · have h0' : ((la : Int) == 0) = false := by simp; omega
      by_cases h1 : lb = 1
      · exfalso; omega
      · have h1' : ((lb : Int) == 1) = false := by simp; omega
        have b1 : Hid (i0.bytes * (lb + la) ≤ 281474976710656) := by show _ ≤ _; rw [hz2]; omega
        have b2 : Hid (lb + la ≤ maxLen) := by show _ ≤ _; unfold maxLen; omega
        have b3 : Hid (Wd 18446744073709551616 (List.replicate (lb + la) 0)) := wd_zeros (by decide) _
        go_enter Tryz.func104, Tryz.ntmps104
        go_wp2_with (first
          | (at_make; refine wpList_make_full _ rfl (.tmp 32) (.tmp 32) 26 rfl w.heap.size 73 i0 (.int .u64 0) 1 Tryz.underlying26 hi hz0 hz1 .i64 .i64 _ _ (lb + la) rfl rfl (by omega) (by omega) b1.out b2.out (Nat.le_refl _) ?_; intro w1 hown1 hgrow1)
          | (go_at_call 114; refine (timesPlain_any w.heap.size 0 (lb + la) bo lb cb ao la ca (List.replicate (lb + la) 0) (mag b) (mag a) w1 (made_blk hown1) b3.out (by simp) (Nat.le_refl _) (by omega) (HX.out.1.later (grown_below hgrow1)) (mag_wd _) (HX.out.2.later (grown_below hgrow1)) (mag_wd _) (by omega) (apart_new HX.out.1 (Nat.le_refl _)) (apart_new HX.out.2 (Nat.le_refl _))).mono ?_; rintro e w2 ⟨L', rfl, hb2, hl2, hw2, _, hv2, ht2⟩; have hl3 : lb + la = L'.length := (by simp [hl2]); have HL : Hid (lb + la = L'.length ∧ V 18446744073709551616 L' 0 (lb + la) = val 18446744073709551616 (mag b) * val 18446744073709551616 (mag a)) := ⟨hl3, hv2⟩; clear hl2 hl3 hv2)
          | (go_at_call 106; refine (trim_any (some ⟨w.heap.size, 0, none⟩) (lb + la) (lb + la) L' w2 (Own.whole hb2 (Nat.le_refl _) HL.out.1).row (by omega)).mono ?_; rintro e w4 ⟨hT, rfl⟩; obtain ⟨ao', n', cap', hn', rfl, hrest⟩ := hT))
        go_ret
        exact Trimmed.nat (L := L') ⟨ao', n', cap', hn', rfl, hrest⟩ hb2 HL.out.1 (Nat.le_refl _) hw2 (by have := HL.out.2; rw [V_all _ HL.out.1, mag_val, mag_val, ← Int.natCast_mul, Nat.mul_comm b a] at this; exact this) ((grown_below hgrow1).trans (ht2.below (Nat.le_refl _)))
  · have h40' : lb < 40 := by omega
    clear h40
    have HX : Hid (RowAt w .u64 ao la ca (mag a) ∧ RowAt w .u64 bo lb cb (mag b)) := ⟨hxa, hxb⟩
    clear hxa hxb
    by_cases h0 : lb = 0
    · have e0 : b = 0 := by
        have := HX.out.2.hlen; rw [h0] at this
        exact (limbs_eq_nil (q := 18446744073709551616) (by decide)).1 (List.eq_nil_of_length_eq_zero this.symm)
      have HP : Hid (a * b = 0) := by show _ = _; rw [e0]; simp
      subst h0
      clear e0
      go_enter Tryz.func104, Tryz.ntmps104
      go_wp2
      go_ret
      exact ⟨none, 0, 0, rfl, by rw [HP.out]; exact Own.none_, Below.refl _ _⟩
    · have h0' : ((lb : Int) == 0) = false := by simp; omega
      by_cases h1 : la = 1
      · obtain rfl : lb = 1 := by omega
        subst h1
        obtain ⟨p, o, rfl, hp, hcp⟩ := HX.out.1.get (by omega)
        obtain ⟨p', o', rfl, hp', hcp'⟩ := HX.out.2.get (by omega)
        have k1 := hcp 0 (by omega)
        have k2 := hcp' 0 (by omega)
        simp only [Nat.add_zero] at k1 k2
        obtain ⟨u, hu⟩ : ∃ u, dig (mag a) 0 = u := ⟨_, rfl⟩
        obtain ⟨v, hv⟩ : ∃ v, dig (mag b) 0 = v := ⟨_, rfl⟩
        rw [hu] at k1; rw [hv] at k2
        have HU : Hid (dig (mag a) 0 = u ∧ dig (mag b) 0 = v) := ⟨hu, hv⟩
        have n1 := mag_of_one HX.out.1.hlen.symm
        have n2 := mag_of_one HX.out.2.hlen.symm
        have HN : Hid (u = (a : Int) ∧ v = (b : Int) ∧ 0 < a ∧ 0 < b ∧ a < 18446744073709551616 ∧ b < 18446744073709551616) := ⟨by rw [← hu, n1.1]; rfl, by rw [← hv, n2.1]; rfl, n1.2.1, n2.2.1, n1.2.2, n2.2.2⟩
        have HC : Hid (w.cell? ⟨p, o, none⟩ = some (.int .u64 u) ∧ w.cell? ⟨p', o', none⟩ = some (.int .u64 v)) := ⟨k1, k2⟩
        clear hcp hcp' hu hv n1 n2
        go_enter Tryz.func104, Tryz.ntmps104
        go_wp2
        go_region_held3 (fun w' => w'.cell? ⟨p, o, none⟩ = some (.int .u64 u) ∧ w'.cell? ⟨p', o', none⟩ = some (.int .u64 v))
          (first
            | exact HC.out
            | exact ⟨(hb1.cell (p := ⟨p, o, none⟩) hp).trans HC.out.1, (hb1.cell (p := ⟨p', o', none⟩) hp').trans HC.out.2⟩)
          (first | (go_at_call 113; refine (timesLimbs_any u v a b _ HN.out.1 HN.out.2.1 HN.out.2.2.1 HN.out.2.2.2.1 HN.out.2.2.2.2.1 HN.out.2.2.2.2.2).mono ?_; rintro e w1 ⟨ao1, l1, c1, rfl, ho1, hb1⟩))
        go_wp2
        go_ret
        exact ⟨_, _, _, rfl, ho1, (Below.refl _ _).drew.trans hb1⟩
      · have h1' : ((la : Int) == 1) = false := by simp; omega
        have b1 : Hid (i0.bytes * (la + lb) ≤ 281474976710656) := by show _ ≤ _; rw [hz2]; omega
        have b2 : Hid (la + lb ≤ maxLen) := by show _ ≤ _; unfold maxLen; omega
        have b3 : Hid (Wd 18446744073709551616 (List.replicate (la + lb) 0)) := wd_zeros (by decide) _
        go_enter Tryz.func104, Tryz.ntmps104
        go_wp2_with (first
          | (at_make; refine wpList_make_full _ rfl (.tmp 32) (.tmp 32) 26 rfl w.heap.size 73 i0 (.int .u64 0) 1 Tryz.underlying26 hi hz0 hz1 .i64 .i64 _ _ (la + lb) rfl rfl (by omega) (by omega) b1.out b2.out (Nat.le_refl _) ?_; intro w1 hown1 hgrow1)
          | (go_at_call 114; refine (timesPlain_any w.heap.size 0 (la + lb) ao la ca bo lb cb (List.replicate (la + lb) 0) (mag a) (mag b) w1 (made_blk hown1) b3.out (by simp) (Nat.le_refl _) (by omega) (HX.out.1.later (grown_below hgrow1)) (mag_wd _) (HX.out.2.later (grown_below hgrow1)) (mag_wd _) (by omega) (apart_new HX.out.1 (Nat.le_refl _)) (apart_new HX.out.2 (Nat.le_refl _))).mono ?_; rintro e w2 ⟨L', rfl, hb2, hl2, hw2, _, hv2, ht2⟩; have hl3 : la + lb = L'.length := (by simp [hl2]); have HL : Hid (la + lb = L'.length ∧ V 18446744073709551616 L' 0 (la + lb) = val 18446744073709551616 (mag a) * val 18446744073709551616 (mag b)) := ⟨hl3, hv2⟩; clear hl2 hl3 hv2)
          | (go_at_call 106; refine (trim_any (some ⟨w.heap.size, 0, none⟩) (la + lb) (la + lb) L' w2 (Own.whole hb2 (Nat.le_refl _) HL.out.1).row (by omega)).mono ?_; rintro e w4 ⟨hT, rfl⟩; obtain ⟨ao', n', cap', hn', rfl, hrest⟩ := hT))
        go_ret
        exact Trimmed.nat (L := L') ⟨ao', n', cap', hn', rfl, hrest⟩ hb2 HL.out.1 (Nat.le_refl _) hw2 (by have := HL.out.2; rw [V_all _ HL.out.1, mag_val, mag_val, ← Int.natCast_mul] at this; exact this) ((grown_below hgrow1).trans (ht2.below (Nat.le_refl _)))
end Go.Proofs.YtdanaebhjkbfmaaGreat
