/-
  DX, DY, DZ.
-/
import Derived.Test.YtiemgadnnnhmkaaGreatPO03
import Derived.Test.YtiemgadnnnhmkaaGreatPO05
import Derived.Lib.RabinKarpLaws
/- Walks: math/bits.Div64 whole; divideByLimb. -/
namespace Go.Proofs.YtiemgadnnnhmkaaGreat
open Go.RowKit
set_option linter.unusedVariables false
set_option linter.unusedSimpArgs false
theorem V_cons (q : Int) (L : List Int) (off m : Nat) : V q L off (m + 1) = dig L off + q * V q L (off + 1) m := by
  have := V_split q L off 1 m
  rw [Nat.add_comm 1 m] at this
  rw [this, V_succ, V_zero, Int.pow_one]; simp
/-- the upper digits of x, from place k on, were divided by y: the quotient's lie in Lk, r is left -/
structure QuoSt (q : Int) (L x : List Int) (y : Int) (off n k : Nat) (r : Int) (Lk : List Int) : Prop where
  len : Lk.length = L.length
  out : ∀ j, j < off + k ∨ off + n ≤ j → dig Lk j = dig L j
  wd : Wd q Lk
  r0 : 0 ≤ r
  r1 : r < y
  eq : V q Lk (off + k) (n - k) * y + r = V q x k (n - k)
theorem QuoSt.start {q : Int} {L x : List Int} {y : Int} (off n : Nat) (h : Wd q L) (hy : 0 < y) : QuoSt q L x y off n n 0 L :=
  ⟨rfl, fun _ _ => rfl, h, Int.le_refl _, hy, by simp [V_zero]⟩
theorem QuoSt.step {q : Int} {L x : List Int} {y : Int} {off n k : Nat} {r : Int} {Lk : List Int} (h : QuoSt q L x y off n (k + 1) r Lk) (hk : k < n) (hl : off + n ≤ L.length) {d r' : Int} (hd : 0 ≤ d ∧ d < q) (hr : 0 ≤ r' ∧ r' < y)
    (he : d * y + r' = r * q + dig x k) : QuoSt q L x y off n k r' (Lk.set (off + k) d) := by
  have hl2 : off + k < Lk.length := by rw [h.len]; omega
  refine ⟨by simp [h.len], fun j hj => ?_, h.wd.set _ hd, hr.1, hr.2, ?_⟩
  · rw [dig_set _ hl2, if_neg (by omega)]; exact h.out j (by omega)
  · have e0 : n - k = (n - (k + 1)) + 1 := by omega
    rw [e0, V_cons, V_cons, dig_set _ hl2, if_pos rfl]
    have e1 : V q (Lk.set (off + k) d) (off + k + 1) (n - (k + 1)) = V q Lk (off + (k + 1)) (n - (k + 1)) := V_congr fun j hj => by rw [dig_set _ hl2, if_neg (by omega)]; rfl
    rw [e1]
    have := h.eq
    grind
end Go.Proofs.YtiemgadnnnhmkaaGreat
/- Walks: subTimes, upBits, downBits. -/
namespace Go.Proofs.YtiemgadnnnhmkaaGreat
open Go.RowKit
set_option linter.unusedVariables false
set_option linter.unusedSimpArgs false
/-- the first k digits of x, u times, were taken from those of L from off on; c is borrowed -/
structure OffSt (q : Int) (L x : List Int) (u : Int) (off k : Nat) (c : Int) (Lk : List Int) : Prop where
  len : Lk.length = L.length
  out : ∀ j, j < off ∨ off + k ≤ j → dig Lk j = dig L j
  wd : Wd q Lk
  c0 : 0 ≤ c
  c1 : c < q
  eq : V q Lk off k + u * val q (x.take k) = V q L off k + c * q ^ k
theorem OffSt.start {q : Int} {L x : List Int} {u : Int} (off : Nat) (h : Wd q L) (hq : 0 < q) : OffSt q L x u off 0 0 L :=
  ⟨rfl, fun _ _ => rfl, h, Int.le_refl _, hq, by simp [V_zero, val]⟩
theorem OffSt.step {q : Int} {L x : List Int} {u : Int} {off k : Nat} {c : Int} {Lk : List Int} (h : OffSt q L x u off k c Lk) (hk : off + k < L.length) {d c' : Int} (hd : 0 ≤ d ∧ d < q) (hc : 0 ≤ c' ∧ c' < q)
    (he : d + dig x k * u + c = dig L (off + k) + c' * q) : OffSt q L x u off (k + 1) c' (Lk.set (off + k) d) := by
  have hl : off + k < Lk.length := by rw [h.len]; exact hk
  refine ⟨by simp [h.len], fun j hj => ?_, h.wd.set _ hd, hc.1, hc.2, ?_⟩
  · rw [dig_set _ hl, if_neg (by omega)]; exact h.out j (by omega)
  · have e1 : V q (Lk.set (off + k) d) off k = V q Lk off k := V_congr fun j hj => by rw [dig_set _ hl, if_neg (by omega)]
    rw [V_succ, V_succ, e1, dig_set _ hl, if_pos rfl, val_take_dig, Int.pow_succ]
    have h1 := h.eq
    have e2 : q ^ k * (d + dig x k * u + c) = q ^ k * (dig L (off + k) + c' * q) := by rw [he]
    grind
/-- the first k digits of x, times P, were laid into L from off on; c is carried -/
structure UpSt (q : Int) (L x : List Int) (P : Int) (off k : Nat) (c : Int) (Lk : List Int) : Prop where
  len : Lk.length = L.length
  out : ∀ j, j < off ∨ off + k ≤ j → dig Lk j = dig L j
  wd : Wd q Lk
  c0 : 0 ≤ c
  c1 : c < P
  eq : V q Lk off k + c * q ^ k = P * val q (x.take k)
theorem UpSt.start {q : Int} {L x : List Int} {P : Int} (off : Nat) (h : Wd q L) (hq : 0 < P) : UpSt q L x P off 0 0 L :=
  ⟨rfl, fun _ _ => rfl, h, Int.le_refl _, hq, by simp [V_zero, val]⟩
theorem UpSt.step {q : Int} {L x : List Int} {P : Int} {off k : Nat} {c : Int} {Lk : List Int} (h : UpSt q L x P off k c Lk) (hk : off + k < L.length) {d c' : Int} (hd : 0 ≤ d ∧ d < q) (hc : 0 ≤ c' ∧ c' < P)
    (he : d + c' * q = dig x k * P + c) : UpSt q L x P off (k + 1) c' (Lk.set (off + k) d) := by
  have hl : off + k < Lk.length := by rw [h.len]; exact hk
  refine ⟨by simp [h.len], fun j hj => ?_, h.wd.set _ hd, hc.1, hc.2, ?_⟩
  · rw [dig_set _ hl, if_neg (by omega)]; exact h.out j (by omega)
  · have e1 : V q (Lk.set (off + k) d) off k = V q Lk off k := V_congr fun j hj => by rw [dig_set _ hl, if_neg (by omega)]
    rw [V_succ, e1, dig_set _ hl, if_pos rfl, val_take_dig, Int.pow_succ]
    have h1 := h.eq
    have e2 : q ^ k * (d + c' * q) = q ^ k * (dig x k * P + c) := by rw [he]
    grind
end Go.Proofs.YtiemgadnnnhmkaaGreat
/- Walks: guessLimb. -/
namespace Go.Proofs.YtiemgadnnnhmkaaGreat
open Go.RowKit
set_option linter.unusedVariables false
set_option linter.unusedSimpArgs false
/-- g is the quotient's limb by the upper limbs, at most the greatest one -/
def IsGuess (u2 u1 u0 v1 v0 g : Int) : Prop := 0 ≤ g ∧ g < 18446744073709551616 ∧ g * (v1 * 18446744073709551616 + v0) ≤ (u2 * 18446744073709551616 + u1) * 18446744073709551616 + u0 ∧ ((u2 * 18446744073709551616 + u1) * 18446744073709551616 + u0 < (g + 1) * (v1 * 18446744073709551616 + v0) ∨ g = 18446744073709551615)
structure GSt (u2 u1 u0 v1 v0 g r : Int) : Prop where
  eq : g * v1 + r = u2 * 18446744073709551616 + u1
  r0 : 0 ≤ r
  r1 : r < 18446744073709551616
  g0 : 0 ≤ g
  g1 : g < 18446744073709551616
  up : (u2 * 18446744073709551616 + u1) * 18446744073709551616 + u0 < (g + 1) * (v1 * 18446744073709551616 + v0) ∨ g = 18446744073709551615
theorem GSt.done {u2 u1 u0 v1 v0 g r hi lo : Int} (h : GSt u2 u1 u0 v1 v0 g r) (hm : hi * 18446744073709551616 + lo = g * v0) (l0 : 0 ≤ lo) (l1 : lo < 18446744073709551616) (k0 : 0 ≤ u0) (k1 : u0 < 18446744073709551616) (ht : hi < r ∨ hi = r ∧ lo ≤ u0) : IsGuess u2 u1 u0 v1 v0 g := by
  refine ⟨h.g0, h.g1, ?_, h.up⟩
  have e : g * (v1 * 18446744073709551616 + v0) = (g * v1) * 18446744073709551616 + g * v0 := by grind
  have := h.eq
  rw [e, ← hm]; omega
theorem GSt.next {u2 u1 u0 v1 v0 g r d : Int} (h : GSt u2 u1 u0 v1 v0 g r) (hl : 1 ≤ g ∧ (u2 * 18446744073709551616 + u1) * 18446744073709551616 + u0 < (g - 1 + 1) * (v1 * 18446744073709551616 + v0) ∧ (g - 1) * v1 + (r + v1) = u2 * 18446744073709551616 + u1) (hd : d = r + v1) (hb : 0 ≤ d ∧ d < 18446744073709551616) : GSt u2 u1 u0 v1 v0 (g - 1) d := by
  have := h.g1
  exact ⟨by rw [hd]; exact hl.2.2, hb.1, hb.2, by omega, by omega, Or.inl hl.2.1⟩
theorem GSt.over {u2 u1 u0 v1 v0 g r : Int} (h : GSt u2 u1 u0 v1 v0 g r) (hl : 1 ≤ g ∧ (u2 * 18446744073709551616 + u1) * 18446744073709551616 + u0 < (g - 1 + 1) * (v1 * 18446744073709551616 + v0) ∧ (g - 1) * v1 + (r + v1) = u2 * 18446744073709551616 + u1) (ho : 18446744073709551616 ≤ r + v1) (k0 : 0 ≤ u0) (k1 : 0 ≤ v0) (k2 : v0 < 18446744073709551616) : IsGuess u2 u1 u0 v1 v0 (g - 1) := by
  have h1 := h.g1
  refine ⟨by omega, by omega, ?_, Or.inl hl.2.1⟩
  have e : (g - 1) * (v1 * 18446744073709551616 + v0) = ((g - 1) * v1) * 18446744073709551616 + (g - 1) * v0 := by grind
  have e2 : (g - 1) * v0 ≤ 18446744073709551615 * 18446744073709551615 := Int.mul_le_mul (by omega) (by omega) k1 (by decide)
  have e3 := hl.2.2
  rw [e]; omega
theorem GSt.first {u2 u1 u0 v1 v0 d r : Int} (he : d * v1 + r = u2 * 18446744073709551616 + u1) (hd : 0 ≤ d ∧ d < 18446744073709551616) (hr : 0 ≤ r ∧ r < v1) (hv : v1 < 18446744073709551616) (k0 : u0 < 18446744073709551616) (k1 : 0 ≤ v0) : GSt u2 u1 u0 v1 v0 d r := by
  refine ⟨he, hr.1, by omega, hd.1, hd.2, Or.inl ?_⟩
  have e : (d + 1) * (v1 * 18446744073709551616 + v0) = (d * v1 + v1) * 18446744073709551616 + (d + 1) * v0 := by grind
  have e2 : 0 ≤ (d + 1) * v0 := Int.mul_nonneg (by omega) k1
  rw [e]; omega
theorem IsGuess.top {u1 u0 v1 v0 : Int} (ho : 18446744073709551616 ≤ u1 + v1) (k0 : 0 ≤ u0) (k1 : 0 ≤ v0) (k2 : v0 < 18446744073709551616) : IsGuess v1 u1 u0 v1 v0 18446744073709551615 := by
  refine ⟨by decide, by decide, ?_, Or.inr rfl⟩
  omega
/-- there is one such limb -/
theorem IsGuess.one {u2 u1 u0 v1 v0 g g' : Int} (hv : 0 < v1) (hv0 : 0 ≤ v0) (h : IsGuess u2 u1 u0 v1 v0 g) (h' : IsGuess u2 u1 u0 v1 v0 g') : g = g' := by
  obtain ⟨a1, a2, a3, a4⟩ := h
  obtain ⟨b1, b2, b3, b4⟩ := h'
  have hD : 0 < v1 * 18446744073709551616 + v0 := by omega
  obtain ⟨D, hDe⟩ : ∃ D, v1 * 18446744073709551616 + v0 = D := ⟨_, rfl⟩
  obtain ⟨U, hU⟩ : ∃ U, (u2 * 18446744073709551616 + u1) * 18446744073709551616 + u0 = U := ⟨_, rfl⟩
  rw [hDe] at hD a3 a4 b3 b4; rw [hU] at a3 a4 b3 b4
  have c1 : g ≤ g' := by
    rcases b4 with h | h
    · have : g * D < (g' + 1) * D := Int.lt_of_le_of_lt a3 h
      have := Int.lt_of_mul_lt_mul_right this (by omega)
      omega
    · omega
  have c2 : g' ≤ g := by
    rcases a4 with h | h
    · have : g' * D < (g + 1) * D := Int.lt_of_le_of_lt b3 h
      have := Int.lt_of_mul_lt_mul_right this (by omega)
      omega
    · omega
  omega
end Go.Proofs.YtiemgadnnnhmkaaGreat
/-
  EA, EB, EC, ED.
-/
/- Walks: takeOut. -/
namespace Go.Proofs.YtiemgadnnnhmkaaGreat
open Go.RowKit
set_option linter.unusedVariables false
set_option linter.unusedSimpArgs false
end Go.Proofs.YtiemgadnnnhmkaaGreat
/- Walks: takeOut. -/
namespace Go.Proofs.YtiemgadnnnhmkaaGreat
open Go.RowKit
set_option linter.unusedVariables false
set_option linter.unusedSimpArgs false
end Go.Proofs.YtiemgadnnnhmkaaGreat
/- Plain mathematics: Knuth's division, limb by limb. -/
namespace Go.Proofs.YtiemgadnnnhmkaaGreat
open Go.RowKit
set_option linter.unusedVariables false
set_option linter.unusedSimpArgs false
/-- the quotient's digits from place k on lie in Lq; what is left of X lies in Lu, below k + n -/
structure DivSt (q M X : Int) (n m k : Nat) (nu : Nat) (Lu Lq : List Int) : Prop where
  lu : Lu.length = nu
  lq : Lq.length = m
  wu : Wd q Lu
  wq : Wd q Lq
  eq : V q Lq k (m - k) * (q ^ k * M) + V q Lu 0 (k + n) = X
  lt : V q Lu 0 (k + n) < M * q ^ k
theorem DivSt.pre {q M X : Int} {n m k nu : Nat} {Lu Lq : List Int} (hq : 1 < q) (h : DivSt q M X n m (k + 1) nu Lu Lq) : V q Lu k (n + 1) < M * q := by
  have e := h.lt
  rw [show k + 1 + n = k + (n + 1) by omega, V_split, Int.pow_succ, Nat.zero_add] at e
  have h0 := V_nonneg (q := q) (by omega) h.wu 0 k
  have hp : 0 < q ^ k := Int.pow_pos (by omega)
  have e2 : q ^ k * V q Lu k (n + 1) < q ^ k * (M * q) := by
    have : M * (q ^ k * q) = q ^ k * (M * q) := by grind
    omega
  exact Int.lt_of_mul_lt_mul_left e2 (by omega)
theorem DivSt.step {q M X : Int} {n m k nu : Nat} {Lu Lq L' : List Int} {d : Int} (hq : 1 < q) (h : DivSt q M X n m (k + 1) nu Lu Lq) (hk : k < m) (hM : M < q ^ n) (hl : L'.length = Lu.length) (hw : Wd q L')
    (hout : ∀ j, j < k ∨ k + (n + 1) ≤ j → dig L' j = dig Lu j) (hd : 0 ≤ d ∧ d < q) (he : V q L' k (n + 1) + d * M = V q Lu k (n + 1)) (hlt : V q L' k (n + 1) < M) : DivSt q M X n m k nu L' (Lq.set k d) := by
  have hlk : k < Lq.length := by rw [h.lq]; exact hk
  have e0 : V q L' 0 k = V q Lu 0 k := V_congr fun j hj => by rw [hout _ (by omega)]
  have hp : 0 < q ^ k := Int.pow_pos (by omega)
  have hz : V q L' k (n + 1) = V q L' k n := by
    have a1 := V_nonneg (q := q) (by omega) hw k n
    have a2 := hw.dig (by omega) (k + n)
    rw [V_succ] at hlt ⊢
    by_cases h0 : dig L' (k + n) = 0
    · rw [h0]; simp
    · have : q ^ n * 1 ≤ q ^ n * dig L' (k + n) := Int.mul_le_mul_of_nonneg_left (by omega) (Int.le_of_lt (Int.pow_pos (by omega)))
      omega
  refine ⟨by rw [hl, h.lu], by simp [h.lq], hw, h.wq.set _ hd, ?_, ?_⟩
  · rw [show m - k = (m - (k + 1)) + 1 by omega, V_cons, dig_set _ hlk, if_pos rfl]
    have e1 : V q (Lq.set k d) (k + 1) (m - (k + 1)) = V q Lq (k + 1) (m - (k + 1)) := V_congr fun j hj => by rw [dig_set _ hlk, if_neg (by omega)]
    have e2 := h.eq
    rw [show k + 1 + n = k + (n + 1) by omega, V_split, Nat.zero_add, Int.pow_succ, ← he] at e2
    rw [e1, V_split, Nat.zero_add, e0, ← hz]
    grind
  · rw [V_split, Nat.zero_add, ← hz]
    have b1 := V_lt hq hw 0 k
    have : q ^ k * (V q L' k (n + 1) + 1) ≤ q ^ k * M := Int.mul_le_mul_of_nonneg_left (by omega) (by omega)
    rw [Int.mul_add, Int.mul_one] at this
    rw [Int.mul_comm M]; omega
end Go.Proofs.YtiemgadnnnhmkaaGreat
/- Walks: divideLong. -/
namespace Go.Proofs.YtiemgadnnnhmkaaGreat
open Go.RowKit
set_option linter.unusedVariables false
set_option linter.unusedSimpArgs false
/-- two slices lie in blocks of their own -/
def Parted (ao bo : Option Addr) : Prop := ∀ p q : Addr, ao = some p → bo = some q → p.block ≠ q.block
theorem Parted.none_ {bo : Option Addr} : Parted none bo := fun p q h => by cases h
theorem Parted.symm {ao bo : Option Addr} (h : Parted ao bo) : Parted bo ao := fun p q hp hq e => h q p hq hp e.symm
/-- the elder one lay there when the younger one was made -/
theorem Parted.made {B B' : Nat} {w w' : World} {t t' : TypeId} {ao bo : Option Addr} {l c l' c' : Nat} {zs ys : List Int} (h : Own B w .u64 t ao l c zs) (k : Own B' w' .u64 t' bo l' c' ys) (hs : w.heap.size ≤ B') : Parted ao bo := by
  intro p q hp hq
  rcases h with ⟨h1, _⟩ | ⟨g, off, cur, h1, h2, h3, _⟩
  · rw [h1] at hp; cases hp
  · rcases k with ⟨k1, _⟩ | ⟨g', off', cur', k1, k2, _⟩
    · rw [k1] at hq; cases hq
    · rw [h1] at hp; rw [k1] at hq
      cases hp; cases hq
      have := heap_lt h3
      show g ≠ g'
      omega
theorem below_less {B B' : Nat} {w w' : World} (h : Below B w w') (hB : B' ≤ B) : Below B' w w' := ⟨h.os, h.tape, h.output, h.size, fun k hk => h.block k (by omega)⟩
end Go.Proofs.YtiemgadnnnhmkaaGreat
/-
  EE, EF, EG, EH.
-/
/- Walks: divide. -/
namespace Go.Proofs.YtiemgadnnnhmkaaGreat
open Go.RowKit
set_option linter.unusedVariables false
set_option linter.unusedSimpArgs false
end Go.Proofs.YtiemgadnnnhmkaaGreat
/- Walks: shiftDown. -/
namespace Go.Proofs.YtiemgadnnnhmkaaGreat
open Go.RowKit
set_option linter.unusedVariables false
set_option linter.unusedSimpArgs false
theorem RowAt.drop {w : World} {k : IntKind} {b o len cap : Nat} {zs : List Int} (h : RowAt w k (some ⟨b, o, none⟩) len cap zs) {j : Nat} (hj : j < len) : RowAt w k (some ⟨b, o + j, none⟩) (len - j) (cap - j) (zs.drop j) := by
  obtain ⟨b', o', e, hlt, hc⟩ := h.get (by omega)
  cases e
  refine ⟨by simp [h.hlen], by have := h.hcap; omega, (fun e => by cases e), Or.inr ⟨b, o + j, rfl, hlt, fun t ht => ?_⟩⟩
  have := hc (j + t) (by omega)
  rw [dig_drop, Nat.add_assoc]; exact this
end Go.Proofs.YtiemgadnnnhmkaaGreat
/- Walks: shiftUp. -/
namespace Go.Proofs.YtiemgadnnnhmkaaGreat
open Go.RowKit
set_option linter.unusedVariables false
set_option linter.unusedSimpArgs false
end Go.Proofs.YtiemgadnnnhmkaaGreat
/- Mathematics of powers and roots. -/
namespace Go.Proofs.YtiemgadnnnhmkaaGreat
set_option linter.unusedVariables false
set_option linter.unusedSimpArgs false
end Go.Proofs.YtiemgadnnnhmkaaGreat
/-
  Walks: power (short numbers).
-/
namespace Go.Proofs.YtiemgadnnnhmkaaGreat
open Go.RowKit Go.Shelf
set_option linter.unusedVariables false
set_option linter.unusedSimpArgs false
theorem mag_len_mul (a b : Nat) : (mag (a * b)).length ≤ (mag a).length + (mag b).length := by
  apply mag_len_le
  have h1 := mag_len_lt (n := a) rfl
  have h2 := mag_len_lt (n := b) rfl
  rw [Int.natCast_mul, Int.pow_add]
  by_cases hb : b = 0
  · subst hb
    rw [Int.natCast_zero, Int.mul_zero]
    exact Int.mul_pos (Int.pow_pos (by decide)) (Int.pow_pos (by decide))
  · exact Int.lt_of_lt_of_le (Int.mul_lt_mul_of_pos_right h1 (by omega)) (Int.mul_le_mul_of_nonneg_left (Int.le_of_lt h2) (Int.le_of_lt (Int.pow_pos (by decide))))
end Go.Proofs.YtiemgadnnnhmkaaGreat
/-
  EM, EN, EO.
-/
/- Walks: Mul (one factor short), Pow, Root; the laws' add, mul, Within. -/
namespace Go.Proofs.YtiemgadnnnhmkaaGreat
open Go.RowKit Go.Shelf
set_option linter.unusedVariables false
set_option linter.unusedSimpArgs false
theorem sgn_mul {na nb : Bool} {a b : Int} (ha : na = sgB a) (hb : nb = sgB b) : a * b = sgn (na != nb) (a.natAbs * b.natAbs) := by
  have h1 := sgn_of ha
  have h2 := sgn_of hb
  unfold sgn at h1 h2 ⊢
  rw [Int.natCast_mul]
  cases na <;> cases nb <;> simp at h1 h2 ⊢
  · rw [h1, h2]
  · rw [h1, ← Int.mul_neg, h2]
  · rw [h2, ← Int.neg_mul, h1]
  · rw [← Int.neg_mul_neg a b, show -a = (a.natAbs : Int) by omega, show -b = (b.natAbs : Int) by omega]
end Go.Proofs.YtiemgadnnnhmkaaGreat
/- Walks: Pow, Root (short numbers); the laws' mul, add, Within. -/
namespace Go.Proofs.YtiemgadnnnhmkaaGreat
open Go.RowKit Go.Shelf
set_option linter.unusedVariables false
set_option linter.unusedSimpArgs false
end Go.Proofs.YtiemgadnnnhmkaaGreat
/- Walks: the laws' mul, add, Within. -/
namespace Go.Proofs.YtiemgadnnnhmkaaGreat
open Go.RowKit Go.Shelf
set_option linter.unusedVariables false
set_option linter.unusedSimpArgs false
end Go.Proofs.YtiemgadnnnhmkaaGreat
/-
  A list of pairs of numbers, in memory.
-/
namespace Go.Proofs.YtiemgadnnnhmkaaGreat
open Go.RowKit
set_option linter.unusedVariables false
set_option linter.unusedSimpArgs false
/-- two numbers and a count lie in block b from o on: whatever they are -/
def ElemAt (w : World) (b o : Nat) : Prop :=
  ∃ (na nb : Bool) (ao bo : Option Addr) (la ca lb cb : Nat) (n : Int) (x y : List Int),
    (w.cell? ⟨b, o, none⟩ = some (.bool na) ∧ w.cell? ⟨b, o + 1, none⟩ = some (.slice ao la ca) ∧ w.cell? ⟨b, o + 2, none⟩ = some (.bool nb) ∧ w.cell? ⟨b, o + 3, none⟩ = some (.slice bo lb cb) ∧ w.cell? ⟨b, o + 4, none⟩ = some (.int .i64 n)) ∧
    RowAt w .u64 ao la ca x ∧ Wd 18446744073709551616 x ∧ RowAt w .u64 bo lb cb y ∧ Wd 18446744073709551616 y ∧ -9223372036854775808 ≤ n ∧ n ≤ 9223372036854775807
theorem ElemAt.later {w w' : World} {b o : Nat} (h : ElemAt w b o) (hb : Below w.heap.size w w') (hlt : b < w.heap.size) : ElemAt w' b o := by
  obtain ⟨na, nb, ao, bo, la, ca, lb, cb, n, x, y, ⟨h0, h1, h2, h3, h4⟩, hx, wx, hy, wy, hn⟩ := h
  exact ⟨na, nb, ao, bo, la, ca, lb, cb, n, x, y, ⟨(hb.cell (p := ⟨b, o, none⟩) hlt).trans h0, (hb.cell (p := ⟨b, o + 1, none⟩) hlt).trans h1, (hb.cell (p := ⟨b, o + 2, none⟩) hlt).trans h2, (hb.cell (p := ⟨b, o + 3, none⟩) hlt).trans h3, (hb.cell (p := ⟨b, o + 4, none⟩) hlt).trans h4⟩, hx.later hb, wx, hy.later hb, wy, hn⟩
end Go.Proofs.YtiemgadnnnhmkaaGreat
