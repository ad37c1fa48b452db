/-
  DX, DY, DZ.
-/
import Derived.Test.YtnodcfeimiimbaaDW

/- Walks: math/bits.Div64 whole; divideByLimb. -/
namespace Go.Proofs.Ytnodcfeimiimbaa
open Go.RowKit
set_option linter.unusedVariables false
set_option linter.unusedSimpArgs false

theorem V_cons (q : Int) (L : List Int) (off m : Nat) : V q L off (m + 1) = dig L off + q * V q L (off + 1) m := by
  have := V_split q L off 1 m
  rw [Nat.add_comm 1 m] at this
  rw [this, V_succ, V_zero, Int.pow_one]; simp

/-- the upper digits of x, from place k on, were divided by y: the quotient's lie in Lk, r is left -/
structure QuoSt (q : Int) (L x : List Int) (y : Int) (off n k : Nat) (r : Int) (Lk : List Int) : Prop where
  len : Lk.length = L.length
  out : ∀ j, j < off + k ∨ off + n ≤ j → dig Lk j = dig L j
  wd : Wd q Lk
  r0 : 0 ≤ r
  r1 : r < y
  eq : V q Lk (off + k) (n - k) * y + r = V q x k (n - k)
theorem QuoSt.start {q : Int} {L x : List Int} {y : Int} (off n : Nat) (h : Wd q L) (hy : 0 < y) : QuoSt q L x y off n n 0 L :=
  ⟨rfl, fun _ _ => rfl, h, Int.le_refl _, hy, by simp [V_zero]⟩
theorem QuoSt.step {q : Int} {L x : List Int} {y : Int} {off n k : Nat} {r : Int} {Lk : List Int} (h : QuoSt q L x y off n (k + 1) r Lk) (hk : k < n) (hl : off + n ≤ L.length) {d r' : Int} (hd : 0 ≤ d ∧ d < q) (hr : 0 ≤ r' ∧ r' < y)
    (he : d * y + r' = r * q + dig x k) : QuoSt q L x y off n k r' (Lk.set (off + k) d) := by
  have hl2 : off + k < Lk.length := by rw [h.len]; omega
  refine ⟨by simp [h.len], fun j hj => ?_, h.wd.set _ hd, hr.1, hr.2, ?_⟩
  · rw [dig_set _ hl2, if_neg (by omega)]; exact h.out j (by omega)
  · have e0 : n - k = (n - (k + 1)) + 1 := by omega
    rw [e0, V_cons, V_cons, dig_set _ hl2, if_pos rfl]
    have e1 : V q (Lk.set (off + k) d) (off + k + 1) (n - (k + 1)) = V q Lk (off + (k + 1)) (n - (k + 1)) := V_congr fun j hj => by rw [dig_set _ hl2, if_neg (by omega)]; rfl
    rw [e1]
    have := h.eq
    grind

/-- what divideByLimb leaves -/
def Quoted (w w' : World) (e : Ending) (g off n : Nat) (L xs : List Int) (y : Int) : Prop :=
  ∃ r L', e = .returned (.int .u64 r) ∧ Blk w' g .u64 51 L' ∧ QuoSt 18446744073709551616 L xs y off n 0 r L' ∧ Touch g w w'


end Go.Proofs.Ytnodcfeimiimbaa

/- Walks: subTimes, upBits, downBits. -/
namespace Go.Proofs.Ytnodcfeimiimbaa
open Go.RowKit
set_option linter.unusedVariables false
set_option linter.unusedSimpArgs false

/-- the first k digits of x, u times, were taken from those of L from off on; c is borrowed -/
structure OffSt (q : Int) (L x : List Int) (u : Int) (off k : Nat) (c : Int) (Lk : List Int) : Prop where
  len : Lk.length = L.length
  out : ∀ j, j < off ∨ off + k ≤ j → dig Lk j = dig L j
  wd : Wd q Lk
  c0 : 0 ≤ c
  c1 : c < q
  eq : V q Lk off k + u * val q (x.take k) = V q L off k + c * q ^ k
theorem OffSt.start {q : Int} {L x : List Int} {u : Int} (off : Nat) (h : Wd q L) (hq : 0 < q) : OffSt q L x u off 0 0 L :=
  ⟨rfl, fun _ _ => rfl, h, Int.le_refl _, hq, by simp [V_zero, val]⟩
theorem OffSt.step {q : Int} {L x : List Int} {u : Int} {off k : Nat} {c : Int} {Lk : List Int} (h : OffSt q L x u off k c Lk) (hk : off + k < L.length) {d c' : Int} (hd : 0 ≤ d ∧ d < q) (hc : 0 ≤ c' ∧ c' < q)
    (he : d + dig x k * u + c = dig L (off + k) + c' * q) : OffSt q L x u off (k + 1) c' (Lk.set (off + k) d) := by
  have hl : off + k < Lk.length := by rw [h.len]; exact hk
  refine ⟨by simp [h.len], fun j hj => ?_, h.wd.set _ hd, hc.1, hc.2, ?_⟩
  · rw [dig_set _ hl, if_neg (by omega)]; exact h.out j (by omega)
  · have e1 : V q (Lk.set (off + k) d) off k = V q Lk off k := V_congr fun j hj => by rw [dig_set _ hl, if_neg (by omega)]
    rw [V_succ, V_succ, e1, dig_set _ hl, if_pos rfl, val_take_dig, Int.pow_succ]
    have h1 := h.eq
    have e2 : q ^ k * (d + dig x k * u + c) = q ^ k * (dig L (off + k) + c' * q) := by rw [he]
    grind

/-- what subTimes leaves -/
def Offed (w w' : World) (e : Ending) (g off n : Nat) (L xs : List Int) (u : Int) : Prop :=
  ∃ c L', e = .returned (.int .u64 c) ∧ Blk w' g .u64 51 L' ∧ OffSt 18446744073709551616 L xs u off n c L' ∧ Touch g w w'

theorem pow_pair {s : Nat} (hs : s < 64) : ∃ P R : Nat, 2 ^ s = P ∧ 2 ^ (64 - s) = R ∧ 0 < P ∧ 0 < R ∧ P * R = 18446744073709551616 ∧ ((2 : Int) ^ s = P) ∧ ((2 : Int) ^ (64 - s) = R) :=
  ⟨_, _, rfl, rfl, Nat.two_pow_pos _, Nat.two_pow_pos _, by rw [← Nat.pow_add, show s + (64 - s) = 64 by omega], by rw [Int.natCast_pow]; rfl, by rw [Int.natCast_pow]; rfl⟩

theorem or_low {a b s P : Nat} (hP : 2 ^ s = P) (hb : b < P) : (a * P) ||| b = a * P + b := by
  have := Nat.shiftLeft_add_eq_or_of_lt (i := s) (b := b) (by rw [hP]; exact hb) a
  rw [Nat.shiftLeft_eq, hP] at this
  exact this.symm

theorem up_ex (x : Int) (s : Nat) (o : Int) (hs : s < 64) (hx : 0 ≤ x ∧ x < 18446744073709551616) (ho : 0 ≤ o ∧ o < 2 ^ s) :
    ∃ d c : Int, bits .or .u64 (IntKind.u64.wrap (x * 2 ^ s)) o = d ∧ x / 2 ^ (64 - s) = c ∧ (0 ≤ d ∧ d < 18446744073709551616) ∧ (0 ≤ c ∧ c < 2 ^ s) ∧ d + c * 18446744073709551616 = x * 2 ^ s + o := by
  obtain ⟨P, R, hP, hR, hP0, hR0, hPR, hPi, hRi⟩ := pow_pair hs
  obtain ⟨x, rfl⟩ := Int.eq_ofNat_of_zero_le hx.1
  obtain ⟨o, rfl⟩ := Int.eq_ofNat_of_zero_le ho.1
  rw [hPi] at ho ⊢
  rw [hRi]
  have h1 := Nat.div_add_mod x R
  have h2 : x % R < R := Nat.mod_lt _ hR0
  obtain ⟨c, hc⟩ : ∃ c, x / R = c := ⟨_, rfl⟩
  obtain ⟨t, ht⟩ : ∃ t, x % R = t := ⟨_, rfl⟩
  rw [hc, ht] at h1
  rw [ht] at h2
  have hcP : c < P := by rw [← hc, Nat.div_lt_iff_lt_mul hR0, hPR]; omega
  have hxP : x * P = c * 18446744073709551616 + t * P := by rw [← h1, ← hPR]; grind
  have htP : t * P + P ≤ 18446744073709551616 := by
    have : (t + 1) * P ≤ R * P := Nat.mul_le_mul_right P h2
    rw [Nat.add_mul, Nat.mul_comm R P, hPR] at this; omega
  refine ⟨((t * P + o : Nat) : Int), (c : Int), ?_, ?_, by omega, by omega, ?_⟩
  · rw [← Int.natCast_mul, hxP, IntKind.wrap_u64]
    have e : ((c * 18446744073709551616 + t * P : Nat) : Int) % 18446744073709551616 = ((t * P : Nat) : Int) := by omega
    rw [e, bits_or_u64_nat _ _ (by omega) (by omega), or_low hP (by omega)]
  · rw [← hc, Int.natCast_ediv]
  · rw [← Int.natCast_mul, hxP]; omega

theorem down_ex (x : Int) (s : Nat) (o : Int) (hs : s < 64) (hx : 0 ≤ x ∧ x < 18446744073709551616) (ho : 0 ≤ o ∧ o < 2 ^ s) :
    ∃ d t : Int, bits .or .u64 (x / 2 ^ s) (o * 2 ^ (64 - s)) = d ∧ IntKind.u64.wrap (x * 2 ^ (64 - s)) = t * 2 ^ (64 - s) ∧ (0 ≤ d ∧ d < 18446744073709551616) ∧ (0 ≤ t ∧ t < 2 ^ s) ∧ d * 2 ^ s + t = o * 18446744073709551616 + x := by
  obtain ⟨P, R, hP, hR, hP0, hR0, hPR, hPi, hRi⟩ := pow_pair hs
  obtain ⟨x, rfl⟩ := Int.eq_ofNat_of_zero_le hx.1
  obtain ⟨o, rfl⟩ := Int.eq_ofNat_of_zero_le ho.1
  rw [hPi] at ho ⊢
  rw [hRi]
  have h1 := Nat.div_add_mod x P
  have h2 : x % P < P := Nat.mod_lt _ hP0
  obtain ⟨c, hc⟩ : ∃ c, x / P = c := ⟨_, rfl⟩
  obtain ⟨t, ht⟩ : ∃ t, x % P = t := ⟨_, rfl⟩
  rw [hc, ht] at h1
  rw [ht] at h2
  have hcR : c < R := by rw [← hc, Nat.div_lt_iff_lt_mul hP0, Nat.mul_comm, hPR]; omega
  have hxR : x * R = c * 18446744073709551616 + t * R := by rw [← h1, ← hPR]; grind
  have htR : t * R + R ≤ 18446744073709551616 := by
    have : (t + 1) * R ≤ P * R := Nat.mul_le_mul_right R h2
    rw [Nat.add_mul, hPR] at this; omega
  have hoR : o * R + R ≤ 18446744073709551616 := by
    have : (o + 1) * R ≤ P * R := Nat.mul_le_mul_right R (by omega)
    rw [Nat.add_mul, hPR] at this; omega
  refine ⟨((o * R + c : Nat) : Int), (t : Int), ?_, ?_, by omega, by omega, ?_⟩
  · have e : ((x : Int) / (P : Int)) = ((c : Nat) : Int) := by rw [← hc, Int.natCast_ediv]
    rw [← Int.natCast_mul, e, bits_or_u64_nat _ _ (by omega) (by omega), Nat.or_comm, or_low hR hcR]
  · rw [← Int.natCast_mul, hxR, IntKind.wrap_u64, ← Int.natCast_mul]; omega
  · have e : (o * R + c) * P = o * 18446744073709551616 + c * P := by rw [← hPR]; grind
    have e2 : c * P + t = x := by rw [Nat.mul_comm]; exact h1
    rw [← Int.natCast_mul, e]; omega

/-- the first k digits of x, times P, were laid into L from off on; c is carried -/
structure UpSt (q : Int) (L x : List Int) (P : Int) (off k : Nat) (c : Int) (Lk : List Int) : Prop where
  len : Lk.length = L.length
  out : ∀ j, j < off ∨ off + k ≤ j → dig Lk j = dig L j
  wd : Wd q Lk
  c0 : 0 ≤ c
  c1 : c < P
  eq : V q Lk off k + c * q ^ k = P * val q (x.take k)
theorem UpSt.start {q : Int} {L x : List Int} {P : Int} (off : Nat) (h : Wd q L) (hq : 0 < P) : UpSt q L x P off 0 0 L :=
  ⟨rfl, fun _ _ => rfl, h, Int.le_refl _, hq, by simp [V_zero, val]⟩
theorem UpSt.step {q : Int} {L x : List Int} {P : Int} {off k : Nat} {c : Int} {Lk : List Int} (h : UpSt q L x P off k c Lk) (hk : off + k < L.length) {d c' : Int} (hd : 0 ≤ d ∧ d < q) (hc : 0 ≤ c' ∧ c' < P)
    (he : d + c' * q = dig x k * P + c) : UpSt q L x P off (k + 1) c' (Lk.set (off + k) d) := by
  have hl : off + k < Lk.length := by rw [h.len]; exact hk
  refine ⟨by simp [h.len], fun j hj => ?_, h.wd.set _ hd, hc.1, hc.2, ?_⟩
  · rw [dig_set _ hl, if_neg (by omega)]; exact h.out j (by omega)
  · have e1 : V q (Lk.set (off + k) d) off k = V q Lk off k := V_congr fun j hj => by rw [dig_set _ hl, if_neg (by omega)]
    rw [V_succ, e1, dig_set _ hl, if_pos rfl, val_take_dig, Int.pow_succ]
    have h1 := h.eq
    have e2 : q ^ k * (d + c' * q) = q ^ k * (dig x k * P + c) := by rw [he]
    grind

/-- what upBits leaves -/
def Upped (w w' : World) (e : Ending) (g off n : Nat) (L xs : List Int) (P : Int) : Prop :=
  ∃ c L', e = .returned (.int .u64 c) ∧ Blk w' g .u64 51 L' ∧ UpSt 18446744073709551616 L xs P off n c L' ∧ Touch g w w'

/-- what downBits leaves -/
def Downed (w w' : World) (e : Ending) (g off n : Nat) (L xs : List Int) (P : Int) : Prop :=
  ∃ r L', e = .returned (.tuple #[]) ∧ Blk w' g .u64 51 L' ∧ QuoSt 18446744073709551616 L xs P off n 0 r L' ∧ Touch g w w'

end Go.Proofs.Ytnodcfeimiimbaa

/- Walks: guessLimb. -/
namespace Go.Proofs.Ytnodcfeimiimbaa
open Go.RowKit
set_option linter.unusedVariables false
set_option linter.unusedSimpArgs false

/-- g is the quotient's limb by the upper limbs, at most the greatest one -/
def IsGuess (u2 u1 u0 v1 v0 g : Int) : Prop := 0 ≤ g ∧ g < 18446744073709551616 ∧ g * (v1 * 18446744073709551616 + v0) ≤ (u2 * 18446744073709551616 + u1) * 18446744073709551616 + u0 ∧ ((u2 * 18446744073709551616 + u1) * 18446744073709551616 + u0 < (g + 1) * (v1 * 18446744073709551616 + v0) ∨ g = 18446744073709551615)
structure GSt (u2 u1 u0 v1 v0 g r : Int) : Prop where
  eq : g * v1 + r = u2 * 18446744073709551616 + u1
  r0 : 0 ≤ r
  r1 : r < 18446744073709551616
  g0 : 0 ≤ g
  g1 : g < 18446744073709551616
  up : (u2 * 18446744073709551616 + u1) * 18446744073709551616 + u0 < (g + 1) * (v1 * 18446744073709551616 + v0) ∨ g = 18446744073709551615
theorem GSt.done {u2 u1 u0 v1 v0 g r hi lo : Int} (h : GSt u2 u1 u0 v1 v0 g r) (hm : hi * 18446744073709551616 + lo = g * v0) (l0 : 0 ≤ lo) (l1 : lo < 18446744073709551616) (k0 : 0 ≤ u0) (k1 : u0 < 18446744073709551616) (ht : hi < r ∨ hi = r ∧ lo ≤ u0) : IsGuess u2 u1 u0 v1 v0 g := by
  refine ⟨h.g0, h.g1, ?_, h.up⟩
  have e : g * (v1 * 18446744073709551616 + v0) = (g * v1) * 18446744073709551616 + g * v0 := by grind
  have := h.eq
  rw [e, ← hm]; omega
theorem GSt.less {u2 u1 u0 v1 v0 g r hi lo : Int} (h : GSt u2 u1 u0 v1 v0 g r) (hm : hi * 18446744073709551616 + lo = g * v0) (l0 : 0 ≤ lo) (l1 : lo < 18446744073709551616) (k0 : 0 ≤ u0) (k1 : u0 < 18446744073709551616) (h1 : ¬ hi < r) (h2 : ¬ (hi = r ∧ lo ≤ u0)) :
    1 ≤ g ∧ (u2 * 18446744073709551616 + u1) * 18446744073709551616 + u0 < (g - 1 + 1) * (v1 * 18446744073709551616 + v0) ∧ (g - 1) * v1 + (r + v1) = u2 * 18446744073709551616 + u1 := by
  have e : g * (v1 * 18446744073709551616 + v0) = (g * v1) * 18446744073709551616 + g * v0 := by grind
  have h3 := h.eq
  have h4 : (u2 * 18446744073709551616 + u1) * 18446744073709551616 + u0 < g * (v1 * 18446744073709551616 + v0) := by rw [e, ← hm]; omega
  refine ⟨?_, by rw [Int.sub_add_cancel]; exact h4, by rw [Int.sub_mul]; omega⟩
  by_cases hg : g = 0
  · subst hg
    rw [Int.zero_mul] at h3 hm
    have := h.r0
    omega
  · have := h.g0; omega
theorem GSt.next {u2 u1 u0 v1 v0 g r d : Int} (h : GSt u2 u1 u0 v1 v0 g r) (hl : 1 ≤ g ∧ (u2 * 18446744073709551616 + u1) * 18446744073709551616 + u0 < (g - 1 + 1) * (v1 * 18446744073709551616 + v0) ∧ (g - 1) * v1 + (r + v1) = u2 * 18446744073709551616 + u1) (hd : d = r + v1) (hb : 0 ≤ d ∧ d < 18446744073709551616) : GSt u2 u1 u0 v1 v0 (g - 1) d := by
  have := h.g1
  exact ⟨by rw [hd]; exact hl.2.2, hb.1, hb.2, by omega, by omega, Or.inl hl.2.1⟩
theorem GSt.over {u2 u1 u0 v1 v0 g r : Int} (h : GSt u2 u1 u0 v1 v0 g r) (hl : 1 ≤ g ∧ (u2 * 18446744073709551616 + u1) * 18446744073709551616 + u0 < (g - 1 + 1) * (v1 * 18446744073709551616 + v0) ∧ (g - 1) * v1 + (r + v1) = u2 * 18446744073709551616 + u1) (ho : 18446744073709551616 ≤ r + v1) (k0 : 0 ≤ u0) (k1 : 0 ≤ v0) (k2 : v0 < 18446744073709551616) : IsGuess u2 u1 u0 v1 v0 (g - 1) := by
  have h1 := h.g1
  refine ⟨by omega, by omega, ?_, Or.inl hl.2.1⟩
  have e : (g - 1) * (v1 * 18446744073709551616 + v0) = ((g - 1) * v1) * 18446744073709551616 + (g - 1) * v0 := by grind
  have e2 : (g - 1) * v0 ≤ 18446744073709551615 * 18446744073709551615 := Int.mul_le_mul (by omega) (by omega) k1 (by decide)
  have e3 := hl.2.2
  rw [e]; omega
theorem GSt.first {u2 u1 u0 v1 v0 d r : Int} (he : d * v1 + r = u2 * 18446744073709551616 + u1) (hd : 0 ≤ d ∧ d < 18446744073709551616) (hr : 0 ≤ r ∧ r < v1) (hv : v1 < 18446744073709551616) (k0 : u0 < 18446744073709551616) (k1 : 0 ≤ v0) : GSt u2 u1 u0 v1 v0 d r := by
  refine ⟨he, hr.1, by omega, hd.1, hd.2, Or.inl ?_⟩
  have e : (d + 1) * (v1 * 18446744073709551616 + v0) = (d * v1 + v1) * 18446744073709551616 + (d + 1) * v0 := by grind
  have e2 : 0 ≤ (d + 1) * v0 := Int.mul_nonneg (by omega) k1
  rw [e]; omega
theorem IsGuess.top {u1 u0 v1 v0 : Int} (ho : 18446744073709551616 ≤ u1 + v1) (k0 : 0 ≤ u0) (k1 : 0 ≤ v0) (k2 : v0 < 18446744073709551616) : IsGuess v1 u1 u0 v1 v0 18446744073709551615 := by
  refine ⟨by decide, by decide, ?_, Or.inr rfl⟩
  omega
theorem GSt.second {u1 u0 v1 v0 r : Int} (hr : r = u1 + v1) (h0 : 0 ≤ r) (h1 : r < 18446744073709551616) : GSt v1 u1 u0 v1 v0 18446744073709551615 r :=
  ⟨by omega, h0, h1, by decide, by decide, Or.inr rfl⟩
/-- there is one such limb -/
theorem IsGuess.one {u2 u1 u0 v1 v0 g g' : Int} (hv : 0 < v1) (hv0 : 0 ≤ v0) (h : IsGuess u2 u1 u0 v1 v0 g) (h' : IsGuess u2 u1 u0 v1 v0 g') : g = g' := by
  obtain ⟨a1, a2, a3, a4⟩ := h
  obtain ⟨b1, b2, b3, b4⟩ := h'
  have hD : 0 < v1 * 18446744073709551616 + v0 := by omega
  obtain ⟨D, hDe⟩ : ∃ D, v1 * 18446744073709551616 + v0 = D := ⟨_, rfl⟩
  obtain ⟨U, hU⟩ : ∃ U, (u2 * 18446744073709551616 + u1) * 18446744073709551616 + u0 = U := ⟨_, rfl⟩
  rw [hDe] at hD a3 a4 b3 b4; rw [hU] at a3 a4 b3 b4
  have c1 : g ≤ g' := by
    rcases b4 with h | h
    · have : g * D < (g' + 1) * D := Int.lt_of_le_of_lt a3 h
      have := Int.lt_of_mul_lt_mul_right this (by omega)
      omega
    · omega
  have c2 : g' ≤ g := by
    rcases a4 with h | h
    · have : g' * D < (g + 1) * D := Int.lt_of_le_of_lt b3 h
      have := Int.lt_of_mul_lt_mul_right this (by omega)
      omega
    · omega
  omega

end Go.Proofs.Ytnodcfeimiimbaa
