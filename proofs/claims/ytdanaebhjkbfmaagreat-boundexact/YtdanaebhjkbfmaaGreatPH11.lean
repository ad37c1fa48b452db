/-
  GA, GB, GC, GD, GE, GF, GG, GH, GI, LE0.
-/
import Derived.Test.YtdanaebhjkbfmaaGreatPH01
import Derived.Test.YtdanaebhjkbfmaaGreatPH04
import Derived.Test.YtdanaebhjkbfmaaGreatPH05
import Derived.Test.YtdanaebhjkbfmaaGreatPH06
import Derived.Test.YtdanaebhjkbfmaaGreatPH08
import Derived.Test.YtdanaebhjkbfmaaGreatPH10
import Derived.Shelf.Spec.TrailingZeros
import Derived.Deep.DeepCutAuto
import Derived.Lib.SliceRun
/- Plain mathematics: greatest common divisors; many steps of Euclid's way at once (Lehmer, with Collins' condition). -/
namespace Go.Proofs.YtdanaebhjkbfmaaGreat
set_option linter.unusedVariables false
set_option linter.unusedSimpArgs false
/-- where foresee stands: s is the sign; a and b are x0 K + al, y0 K + be -/
structure Fore (A B x0 y0 x y u0 u1 u2 v0 v1 v2 s : Int) : Prop where
  sg : s = 1 ∨ s = -1
  n0 : 0 ≤ u0 ∧ 0 ≤ u1 ∧ 0 ≤ u2
  n1 : 0 ≤ v0 ∧ 0 ≤ v1 ∧ 1 ≤ v2
  hx : x = s * (u1 * x0 - v1 * y0)
  hy : y = s * (v2 * y0 - u2 * x0)
  h0 : 0 ≤ y
  h1 : y ≤ x
  ix : v2 * x + v1 * y = x0
  iy : u2 * x + u1 * y = y0
  dt : u1 * v2 - u2 * v1 = s
  le : u2 ≤ v2
  ls : u1 + u2 ≤ v1 + v2
  ph : (u0 = 0 ∧ v0 = 0 ∧ u1 = 1 ∧ v1 = 0 ∧ u2 = 0 ∧ v2 = 1 ∧ s = 1) ∨ (u0 = 1 ∧ v0 = 0 ∧ u1 = 0 ∧ v1 = 1 ∧ u2 = 1 ∧ s = -1) ∨
    ((1 ≤ v0 ∧ 1 ≤ v1) ∧ u0 * v1 - u1 * v0 = -s ∧ 0 ≤ s * (u1 * A - v1 * B) ∧ s * (u1 * A - v1 * B) ≤ s * (v0 * B - u0 * A) ∧ s * (v0 * B - u0 * A) ≤ B ∧ s * (v0 * B - u0 * A) + s * (u1 * A - v1 * B) ≤ A)
theorem Fore.start {A B x0 y0 : Int} (h0 : 0 ≤ y0) (h1 : y0 ≤ x0) : Fore A B x0 y0 x0 y0 0 1 0 0 0 1 1 :=
  ⟨Or.inl rfl, by decide, by decide, by simp, by simp, h0, h1, by simp, by simp, by simp, by decide, by decide, Or.inl ⟨rfl, rfl, rfl, rfl, rfl, rfl, rfl⟩⟩
/-- what Collins' condition says of the whole numbers -/
theorem Fore.cond {A B x0 y0 x y u0 u1 u2 v0 v1 v2 s K al be : Int} (h : Fore A B x0 y0 x y u0 u1 u2 v0 v1 v2 s) (hA : A = x0 * K + al) (hB : B = y0 * K + be) (ha0 : 0 ≤ al) (ha1 : al < K) (hb0 : 0 ≤ be) (hb1 : be < K) (c1 : v2 ≤ y) (c2 : v1 + v2 ≤ x - y) :
    0 ≤ s * (v2 * B - u2 * A) ∧ s * (v2 * B - u2 * A) ≤ s * (u1 * A - v1 * B) := by
  have hK : 0 < K := by omega
  obtain ⟨n1, n2, n3⟩ := h.n0
  obtain ⟨m1, m2, m3⟩ := h.n1
  have e1 : s * (v2 * B - u2 * A) = y * K + s * (v2 * be - u2 * al) := by rw [h.hy, hA, hB]; grind
  have e2 : s * (u1 * A - v1 * B) = x * K + s * (u1 * al - v1 * be) := by rw [h.hx, hA, hB]; grind
  have p1 : 0 ≤ v2 * be := Int.mul_nonneg (by omega) hb0
  have p2 : v2 * be ≤ v2 * K := Int.mul_le_mul_of_nonneg_left (by omega) (by omega)
  have p3 : 0 ≤ u2 * al := Int.mul_nonneg n3 ha0
  have p4 : u2 * al ≤ u2 * K := Int.mul_le_mul_of_nonneg_left (by omega) n3
  have p5 : u2 * K ≤ v2 * K := Int.mul_le_mul_of_nonneg_right h.le (by omega)
  have p6 : v2 * K ≤ y * K := Int.mul_le_mul_of_nonneg_right c1 (by omega)
  have p7 : (v1 + v2) * K ≤ (x - y) * K := Int.mul_le_mul_of_nonneg_right c2 (by omega)
  have p8 : (u1 + u2) * al ≤ (u1 + u2) * K := Int.mul_le_mul_of_nonneg_left (by omega) (by omega)
  have p9 : (u1 + u2) * K ≤ (v1 + v2) * K := Int.mul_le_mul_of_nonneg_right h.ls (by omega)
  have pa : (v1 + v2) * be ≤ (v1 + v2) * K := Int.mul_le_mul_of_nonneg_left (by omega) (by omega)
  have pb : 0 ≤ (u1 + u2) * al := Int.mul_nonneg (by omega) ha0
  have pc : 0 ≤ (v1 + v2) * be := Int.mul_nonneg (by omega) hb0
  rw [e1, e2]
  simp only [Int.add_mul, Int.sub_mul] at p7 p8 p9 pa pb pc
  rcases h.sg with hs | hs <;> rw [hs] <;> simp only [Int.one_mul, Int.neg_mul] <;> omega
theorem Fore.step {A B x0 y0 x y u0 u1 u2 v0 v1 v2 s K al be q r : Int} (h : Fore A B x0 y0 x y u0 u1 u2 v0 v1 v2 s) (hA : A = x0 * K + al) (hB : B = y0 * K + be) (ha0 : 0 ≤ al) (ha1 : al < K) (hb0 : 0 ≤ be) (hb1 : be < K) (c1 : v2 ≤ y) (c2 : v1 + v2 ≤ x - y)
    (hq : x = q * y + r) (hr0 : 0 ≤ r) (hr1 : r < y) (hq1 : 1 ≤ q) (hBp : 0 ≤ B) : Fore A B x0 y0 y r u1 u2 (u1 + q * u2) v1 v2 (v1 + q * v2) (-s) := by
  obtain ⟨k1, k2⟩ := h.cond hA hB ha0 ha1 hb0 hb1 c1 c2
  obtain ⟨n1, n2, n3⟩ := h.n0
  obtain ⟨m1, m2, m3⟩ := h.n1
  have g1 : u2 ≤ q * u2 := by have := Int.mul_le_mul_of_nonneg_right hq1 n3; omega
  have g2 : v2 ≤ q * v2 := by have := Int.mul_le_mul_of_nonneg_right hq1 (show 0 ≤ v2 by omega); omega
  have g3 : q * u2 - u2 ≤ q * v2 - v2 := by
    have := Int.mul_le_mul_of_nonneg_left h.le (show 0 ≤ q - 1 by omega)
    rw [Int.sub_mul, Int.sub_mul] at this; omega
  have hls := h.ls
  have hle := h.le
  have hix := h.ix
  have hiy := h.iy
  have hdt := h.dt
  refine ⟨by rcases h.sg with e | e <;> rw [e] <;> simp, ⟨n2, n3, by omega⟩, ⟨m2, by omega, by omega⟩, ?_, ?_, hr0, by omega, ?_, ?_, ?_, by omega, by omega, ?_⟩
  · rw [h.hy]; grind
  · have : r = x - q * y := by omega
    rw [this, h.hx, h.hy]; grind
  · rw [← hix, hq]; grind
  · rw [← hiy, hq]; grind
  · rw [← hdt]; grind
  · rcases h.ph with ⟨e1, e2, e3, e4, e5, e6, e7⟩ | ⟨e1, e2, e3, e4, e5, e6⟩ | ⟨e1, e2, e3, e4, e5, e6⟩
    · refine Or.inr (Or.inl ⟨e3, e4, e5, e6, ?_, by rw [e7]⟩)
      rw [e3, e5]; simp
    · refine Or.inr (Or.inr ?_)
      subst e1 e2 e3 e4 e5 e6
      have hv : B ≤ v2 * B := by have := Int.mul_le_mul_of_nonneg_right m3 hBp; omega
      refine ⟨⟨by decide, m3⟩, by simp, ?_, ?_, ?_, ?_⟩ <;> simp at k1 k2 ⊢ <;> omega
    · refine Or.inr (Or.inr ?_)
      have f1 : -s * (u2 * A - v2 * B) = s * (v2 * B - u2 * A) := by grind
      have f2 : -s * (v1 * B - u1 * A) = s * (u1 * A - v1 * B) := by grind
      exact ⟨⟨e1.2, m3⟩, by rw [hdt]; simp, by rw [f1]; exact k1, by rw [f1, f2]; exact k2, by rw [f2]; omega, by rw [f1, f2]; omega⟩
/-- what is told where foresee stops: the next two numbers, or none -/
theorem Fore.ends {A B x0 y0 x y u0 u1 u2 v0 v1 v2 s : Int} (h : Fore A B x0 y0 x y u0 u1 u2 v0 v1 v2 s) (hv : v0 ≠ 0) :
    u0 * v1 - u1 * v0 = -s ∧ 0 ≤ s * (u1 * A - v1 * B) ∧ s * (u1 * A - v1 * B) ≤ s * (v0 * B - u0 * A) ∧ s * (v0 * B - u0 * A) ≤ B ∧ s * (v0 * B - u0 * A) + s * (u1 * A - v1 * B) ≤ A := by
  rcases h.ph with ⟨e1, e2, _⟩ | ⟨e1, e2, _⟩ | ⟨e1, e2, e3, e4, e5, e6⟩
  · exact absurd e2 hv
  · exact absurd e2 hv
  · exact ⟨e2, e3, e4, e5, e6⟩
/-- nothing runs over -/
theorem Fore.small {A B x0 y0 x y u0 u1 u2 v0 v1 v2 s : Int} (h : Fore A B x0 y0 x y u0 u1 u2 v0 v1 v2 s) (hx : 1 ≤ x) : v2 ≤ x0 ∧ u2 ≤ y0 := by
  obtain ⟨n1, n2, n3⟩ := h.n0
  obtain ⟨m1, m2, m3⟩ := h.n1
  have a1 : v2 * 1 ≤ v2 * x := Int.mul_le_mul_of_nonneg_left hx (by omega)
  have a2 : u2 * 1 ≤ u2 * x := Int.mul_le_mul_of_nonneg_left hx n3
  have a3 := Int.mul_nonneg m2 h.h0
  have a4 := Int.mul_nonneg n2 h.h0
  have a5 := h.ix
  have a6 := h.iy
  omega
end Go.Proofs.YtdanaebhjkbfmaaGreat
/- Walks: timesPlus, combine. -/
namespace Go.Proofs.YtdanaebhjkbfmaaGreat
open Go.RowKit
set_option linter.unusedVariables false
set_option linter.unusedSimpArgs false
/-- u times the first k digits of x less v times those of y were laid into L from off on; what is carried, and borrowed -/
structure CombSt (q : Int) (L x y : List Int) (u v : Int) (off k : Nat) (cx cy bo : Int) (Lk : List Int) : Prop where
  len : Lk.length = L.length
  out : ∀ j, j < off ∨ off + k ≤ j → dig Lk j = dig L j
  wd : Wd q Lk
  x0 : 0 ≤ cx ∧ cx < q
  y0 : 0 ≤ cy ∧ cy < q
  b0 : 0 ≤ bo ∧ bo ≤ 1
  eq : V q Lk off k + (cx - cy - bo) * q ^ k = u * val q (x.take k) - v * val q (y.take k)
theorem CombSt.start {q : Int} (hq : 0 < q) {L x y : List Int} {u v : Int} (off : Nat) (h : Wd q L) : CombSt q L x y u v off 0 0 0 0 L :=
  ⟨rfl, fun _ _ => rfl, h, ⟨Int.le_refl _, hq⟩, ⟨Int.le_refl _, hq⟩, by decide, by simp [V_zero, val]⟩
theorem CombSt.step {q : Int} {L x y : List Int} {u v : Int} {off k : Nat} {cx cy bo : Int} {Lk : List Int} (h : CombSt q L x y u v off k cx cy bo Lk) (hk : off + k < L.length) {lx ly d cx' cy' b' : Int} (hd : 0 ≤ d ∧ d < q) (hx : 0 ≤ cx' ∧ cx' < q) (hy : 0 ≤ cy' ∧ cy' < q) (hb : 0 ≤ b' ∧ b' ≤ 1)
    (e1 : lx + cx' * q = dig x k * u + cx) (e2 : ly + cy' * q = dig y k * v + cy) (e3 : d + (-1) * (b' * q) = lx + (-1) * (ly + bo)) : CombSt q L x y u v off (k + 1) cx' cy' b' (Lk.set (off + k) d) := by
  have hl : off + k < Lk.length := by rw [h.len]; exact hk
  refine ⟨by simp [h.len], fun j hj => ?_, h.wd.set _ hd, hx, hy, hb, ?_⟩
  · rw [dig_set _ hl, if_neg (by omega)]; exact h.out j (by omega)
  · have f1 : V q (Lk.set (off + k) d) off k = V q Lk off k := V_congr fun j hj => by rw [dig_set _ hl, if_neg (by omega)]
    rw [V_succ, f1, dig_set _ hl, if_pos rfl, val_take_dig, val_take_dig, Int.pow_succ]
    have h1 := h.eq
    have f2 : q ^ k * (lx + cx' * q) = q ^ k * (dig x k * u + cx) := by rw [e1]
    have f3 : q ^ k * (ly + cy' * q) = q ^ k * (dig y k * v + cy) := by rw [e2]
    have f4 : q ^ k * (d + (-1) * (b' * q)) = q ^ k * (lx + (-1) * (ly + bo)) := by rw [e3]
    grind
end Go.Proofs.YtdanaebhjkbfmaaGreat
/- Walks: Rem64, modLimb. -/
namespace Go.Proofs.YtdanaebhjkbfmaaGreat
open Go.RowKit
set_option linter.unusedVariables false
set_option linter.unusedSimpArgs false
/-- the number of the digits from place k on -/
def up (q : Int) (zs : List Int) (k : Nat) : Int := val q (zs.drop k)
end Go.Proofs.YtdanaebhjkbfmaaGreat
/- The walk of foresee. -/
namespace Go.Proofs.YtdanaebhjkbfmaaGreat
open Go.RowKit
set_option linter.unusedVariables false
set_option linter.unusedSimpArgs false
/-- where the loop stands -/
def ForeAt (A B x0 y0 x y u0 u1 u2 v0 v1 v2 : Int) (odd : Bool) : Prop := Fore A B x0 y0 x y u0 u1 u2 v0 v1 v2 (if odd then 1 else -1) ∧ u0 < 18446744073709551616 ∧ u1 < 18446744073709551616 ∧ u2 < 18446744073709551616 ∧ v0 < 18446744073709551616 ∧ v1 < 18446744073709551616 ∧ v2 < 18446744073709551616
theorem odd_flip (odd : Bool) : -(if odd then (1 : Int) else -1) = (if !odd then 1 else -1) := by cases odd <;> rfl
theorem ForeAt.step {A B K al be x0 y0 x y u0 u1 u2 v0 v1 v2 q r : Int} {odd : Bool} (h : ForeAt A B x0 y0 x y u0 u1 u2 v0 v1 v2 odd) (hA : A = x0 * K + al) (hB : B = y0 * K + be) (ha0 : 0 ≤ al) (ha1 : al < K) (hb0 : 0 ≤ be) (hb1 : be < K) (hBp : 0 ≤ B) (hx0 : x0 < 18446744073709551616) (hyx : y0 ≤ x0)
    (c1 : v2 ≤ y) (c2 : v1 + v2 ≤ x - y) (hq : x / y = q) (hr : x % y = r) : ForeAt A B x0 y0 y r u1 u2 (u1 + q * u2) v1 v2 (v1 + q * v2) (!odd) ∧ (0 ≤ q ∧ 0 ≤ q * u2 ∧ 0 ≤ q * v2) := by
  obtain ⟨hF, b1, b2, b3, b4, b5, b6⟩ := h
  obtain ⟨n1, n2, n3⟩ := hF.n0
  obtain ⟨m1, m2, m3⟩ := hF.n1
  have hy1 : 1 ≤ y := by omega
  have hm := Int.mul_ediv_add_emod x y
  have hr0 := Int.emod_nonneg x (show y ≠ 0 by omega)
  have hr1 := Int.emod_lt_of_pos x (show 0 < y by omega)
  rw [hq, hr] at hm
  rw [hr] at hr0 hr1
  have hq1 : 1 ≤ q := by
    rcases Int.lt_or_le q 1 with e | e
    · have : y * q ≤ y * 0 := Int.mul_le_mul_of_nonneg_left (by omega) (by omega)
      have := hF.h1
      omega
    · exact e
  have hS := hF.step hA hB ha0 ha1 hb0 hb1 c1 c2 (q := q) (r := r) (by rw [Int.mul_comm q y]; omega) hr0 hr1 hq1 hBp
  have hsm := hS.small hy1
  rw [odd_flip] at hS
  exact ⟨⟨hS, b2, b3, by omega, b5, b6, by omega⟩, by omega, Int.mul_nonneg (by omega) n3, Int.mul_nonneg (by omega) (by omega)⟩
end Go.Proofs.YtdanaebhjkbfmaaGreat
/- Walks: TrailingZeros64, limbDivisor. -/
namespace Go.Proofs.YtdanaebhjkbfmaaGreat
open Go.RowKit
set_option linter.unusedVariables false
set_option linter.unusedSimpArgs false
theorem two_parts {a b m n : Nat} (h : 2 ^ a * (2 * m + 1) = 2 ^ b * (2 * n + 1)) : a = b := by
  rcases Nat.lt_trichotomy a b with e | e | e
  · exfalso
    obtain ⟨d, rfl⟩ : ∃ d, b = a + (d + 1) := ⟨b - a - 1, by omega⟩
    rw [Nat.pow_add, Nat.mul_assoc] at h
    have := Nat.eq_of_mul_eq_mul_left (Nat.two_pow_pos a) h
    rw [Nat.pow_succ] at this
    have e2 : 2 ^ d * 2 * (2 * n + 1) = 2 * (2 ^ d * (2 * n + 1)) := by rw [Nat.mul_comm (2 ^ d) 2, Nat.mul_assoc]
    omega
  · exact e
  · exfalso
    obtain ⟨d, rfl⟩ : ∃ d, a = b + (d + 1) := ⟨a - b - 1, by omega⟩
    rw [Nat.pow_add, Nat.mul_assoc] at h
    have := Nat.eq_of_mul_eq_mul_left (Nat.two_pow_pos b) h
    rw [Nat.pow_succ] at this
    have e2 : 2 ^ d * 2 * (2 * m + 1) = 2 * (2 ^ d * (2 * m + 1)) := by rw [Nat.mul_comm (2 ^ d) 2, Nat.mul_assoc]
    omega
end Go.Proofs.YtdanaebhjkbfmaaGreat
/- Walks: division of long numbers once more: the rest's memory may be written, spare room too. -/
namespace Go.Proofs.YtdanaebhjkbfmaaGreat
open Go.RowKit
set_option linter.unusedVariables false
set_option linter.unusedSimpArgs false
/-- a slice whose whole room may be written -/
def Wide (w : World) (bo : Option Addr) (cb : Nat) : Prop := bo = none ∧ cb = 0 ∨ ∃ g off, bo = some ⟨g, off, none⟩ ∧ Room w g off cb
end Go.Proofs.YtdanaebhjkbfmaaGreat
/- The walk of shorten. -/
namespace Go.Proofs.YtdanaebhjkbfmaaGreat
open Go.RowKit
set_option linter.unusedVariables false
set_option linter.unusedSimpArgs false
/-- where shorten stands -/
structure ShAt (w wr : World) (X Y : Nat) (ga oa la ca : Nat) (bo : Option Addr) (lb cb gc oc cc gd od cd A B : Nat) : Prop where
  rowa : RowAt wr .u64 (some ⟨ga, oa, none⟩) la ca (mag A)
  rooma : Room wr ga oa ca
  rowb : RowAt wr .u64 bo lb cb (mag B)
  wideb : Wide wr bo cb
  roomc : Room wr gc oc cc
  roomd : Room wr gd od cd
  lc : la ≤ cc
  ld : la ≤ cd
  caps : ca ≤ 4294967296 ∧ cb ≤ 4294967296 ∧ cc ≤ 4294967296 ∧ cd ≤ 4294967296
  apart : ga ≠ gc ∧ ga ≠ gd ∧ gc ≠ gd
  apartb : ∀ g off, bo = some ⟨g, off, none⟩ → g ≠ ga ∧ g ≠ gc ∧ g ≠ gd ∧ w.heap.size ≤ g
  new : w.heap.size ≤ ga ∧ w.heap.size ≤ gc ∧ w.heap.size ≤ gd
  gcd : Nat.gcd A B = Nat.gcd X Y
  le : B ≤ A
  pos : 0 < A
  below : Below w.heap.size w wr
theorem row_wide {w : World} {g off l c : Nat} (h : Wide w (some ⟨g, off, none⟩) c) : Room w g off c := by
  rcases h with ⟨e, _⟩ | ⟨g', off', e, h⟩
  · cases e
  · cases e; exact h
theorem Wide.later {F : Nat → Nat → Prop} {w w' : World} {bo : Option Addr} {c : Nat} (h : Wide w bo c) (hc : Chg F w w') : Wide w' bo c := by
  rcases h with h | ⟨g, off, e, h⟩
  · exact Or.inl h
  · exact Or.inr ⟨g, off, e, h.later hc⟩
theorem ShAt.divided {w wr wd wd' : World} {X Y ga oa la ca gb ob lb cb gc oc cc gd od cd A B : Nat} (h : ShAt w wr X Y ga oa la ca (some ⟨gb, ob, none⟩) lb cb gc oc cc gd od cd A B) (hlba : lb ≤ la) (hB : 0 < B) (h1 : Below wr.heap.size wr wd) {ao : Option Addr} {l c : Nat}
    (ho : Own wd.heap.size wd' .u64 73 ao l c (mag (A % B))) (h2 : Below wd.heap.size wd wd') (hw : Wide wd' ao c) (hc : c ≤ lb) (hl : lb ≤ 4294967296) : ShAt w wd' X Y gb ob lb cb ao l c gc oc cc gd od cd B (A % B) := by
  have h3 := bnext h1 h2
  have hC : Chg (Fr 0 0 0) wr wd' := Chg.below h3
  have hmod := Nat.mod_lt A hB
  obtain ⟨n1, n2, n3⟩ := h.new
  obtain ⟨a1, a2, a3⟩ := h.apart
  obtain ⟨p1, p2, p3, p4⟩ := h.apartb gb ob rfl
  have l1 := h.rooma.lt
  have l2 := (row_wide (l := lb) h.wideb).lt
  have l3 := h.roomc.lt
  have l4 := h.roomd.lt
  have hs := h1.size
  refine ⟨h.rowb.later h3, (row_wide (l := lb) h.wideb).later hC, ho.row, hw, h.roomc.later hC, h.roomd.later hC, Nat.le_trans hlba h.lc, Nat.le_trans hlba h.ld, ⟨h.caps.2.1, by omega, h.caps.2.2.1, h.caps.2.2.2⟩, ⟨p2, p3, a3⟩, ?_, ⟨p4, n2, n3⟩, ?_, by omega, hB, bnext h.below h3⟩
  · intro g off e
    rcases ho with ⟨e2, _⟩ | ⟨g', off', cur, e2, hg', _⟩
    · rw [e2] at e; cases e
    · rw [e2] at e; cases e
      have := h.below.size
      exact ⟨by omega, by omega, by omega, by omega⟩
  · rw [Nat.gcd_comm B, ← Nat.gcd_rec, Nat.gcd_comm]; exact h.gcd
theorem RowAt.stays {F : Nat → Nat → Prop} {w w' : World} {b o len cap : Nat} {zs : List Int} (h : RowAt w .u64 (some ⟨b, o, none⟩) len cap zs) (hc : Chg F w w') (hF : ∀ t, t < len → ¬ F b (o + t)) : RowAt w' .u64 (some ⟨b, o, none⟩) len cap zs := by
  refine ⟨h.hlen, h.hcap, h.hnil, ?_⟩
  by_cases hp : 0 < len
  · obtain ⟨k1, k2⟩ := RowV.cells h hp
    refine Or.inr ⟨b, o, rfl, Nat.lt_of_lt_of_le k1 hc.size, fun t ht => ?_⟩
    rw [hc.cell b (o + t) k1 (hF t ht)]; exact k2 t ht
  · exact Or.inl (by omega)
theorem below_drewN {B : Nat} {a b : World} (h : Below B a b) (k : Nat) : Below B a (b.drewN k) := ⟨h.os, h.tape, h.output, h.size, h.block⟩
theorem RowV.drewN {w : World} {b o len cap : Nat} {v : Int} (h : RowV w (some ⟨b, o, none⟩) len cap v) (k : Nat) : RowV (w.drewN k) (some ⟨b, o, none⟩) len cap v :=
  h.later (F := Fr 0 0 0) ((Chg.refl _ _).drewN k) fun t ht hF => by have := hF.2; omega
end Go.Proofs.YtdanaebhjkbfmaaGreat
/- Walks: commonDivisor. -/
namespace Go.Proofs.YtdanaebhjkbfmaaGreat
open Go.RowKit
set_option linter.unusedVariables false
set_option linter.unusedSimpArgs false
end Go.Proofs.YtdanaebhjkbfmaaGreat
/- Walks: Gcd. -/
namespace Go.Proofs.YtdanaebhjkbfmaaGreat
open Go.RowKit
set_option linter.unusedVariables false
set_option linter.unusedSimpArgs false
end Go.Proofs.YtdanaebhjkbfmaaGreat
/- LE0 -/
namespace Go.Proofs.YtdanaebhjkbfmaaGreat
open Go.RowKit
set_option linter.unusedVariables false
set_option linter.unusedSimpArgs false
end Go.Proofs.YtdanaebhjkbfmaaGreat
/-
  CL, RB, RCa, RD, RC, RFa.
-/
/- Walks: slices.Clone of words. -/
namespace Go.Proofs.YtdanaebhjkbfmaaGreat
open Go.RowKit
set_option linter.unusedVariables false
set_option linter.unusedSimpArgs false
set_option maxRecDepth 100000 in
set_option maxHeartbeats 1000000 in
theorem clone_row (ao : Option Addr) (len cap : Nat) (zs : List Int) (w : World) (hr : RowAt w .u64 ao len cap zs) (hp : 0 < len) (hl : len ≤ 4294967296) :
    Calls Tryz.prog 88 #[.slice ao len cap] w fun e w' => NewRow w w' e zs := by
  obtain ⟨i0, hi, hz0, hz1, hz2⟩ := info_parts info64
  obtain ⟨b, off, rfl, hlt, hc⟩ := hr.get hp
  have HL : Hid (len = zs.length) := hr.hlen
  have HC : Hid (∀ t, t < len → w.cell? ⟨b, off + t, none⟩ = some (.int .u64 (dig zs t))) := hc
  have q22 : ∀ (w : World) (a : Option Addr) (n c n' c' : Nat), (binOp .eql 26 (.slice a n c) (.slice none n' c')).run Tryz.prog w = .ok (.bool a.isNone) w := fun w a n c n' c' => Lib.run_eql_slice_nil w _ _ a n c n' c' Tryz.underlying26
  have u22 : ∀ w, Sem.run Tryz.prog (underlying 26) w = .ok (TypeDesc.slice 73) w := run_underlying Tryz.underlying26
  clear hr hc
  go_enter Tryz.func88, Tryz.ntmps88
  go_wp2_with (at_builtin; refine wpList_append_own _ rfl _ _ 26 rfl w.heap.size 73 i0 (.int .u64 0) 1 8 Tryz.underlying26 hi hz0 hz1 hz2 rfl (by decide) _ _ _ rfl (World.ownsRow_made w #[] 0 (Nat.le_refl _) (Nat.zero_le _) rfl) ⟨b, off, none⟩ len cap (zs.map (Value.int .u64)) rfl ?qc1 ?qc2 ?qc3 ?qc4 ?qc5 ?qc6 ?_)
  case qc1 => have := HL.out; simp; omega
  case qc2 =>
    intro j u hj
    have hjl : j < zs.length := by
      have := (List.getElem?_eq_some_iff.1 hj).1
      simpa using this
    rw [Addr.add_lit]
    refine Lib.cell?_alloc_some _ ?_
    rw [HC.out j (by have := HL.out; omega)]
    rw [List.getElem?_map, List.getElem?_eq_getElem hjl] at hj
    simp only [Option.map_some, Option.some.injEq] at hj
    rw [← hj]; simp [dig, hjl]
  case qc3 => intro u hu; obtain ⟨x, _, rfl⟩ := List.mem_map.1 hu; rfl
  case qc4 => unfold maxLen; omega
  case qc5 => omega
  case qc6 => simp
  intro v' w1 hown hgrow hnil
  go_wp2
  go_ret
  have hbel : Below w.heap.size w w1 := ((Below.refl _ w).alloc (Nat.le_refl _) _).grown hgrow (by simp) (by intro k hk; simp [Value.ownBlock] at hk; omega)
  have hown' : w1.ownsRow w.heap.size 73 1 v' len (zs.map (Value.int .u64)) := by simpa using hown
  obtain ⟨ao2, c2, rfl, _⟩ := row_of_owns HL.out.symm hown'
  exact ⟨_, _, _, rfl, Own.ofRow HL.out.symm hown', hbel⟩
end Go.Proofs.YtdanaebhjkbfmaaGreat
/- Powers of 2 in a number, in plain. -/
namespace Go.Proofs.YtdanaebhjkbfmaaGreat
open Go.RowKit
set_option linter.unusedVariables false
set_option linter.unusedSimpArgs false
/-- 2 stands N times in n -/
def Twos (n N : Nat) : Prop := ∃ m, n = 2 ^ N * (2 * m + 1)
theorem Twos.one {n N M : Nat} (h : Twos n N) (k : Twos n M) : N = M := by
  obtain ⟨a, ha⟩ := h; obtain ⟨b, hb⟩ := k
  exact two_parts (ha.symm.trans hb)
end Go.Proofs.YtdanaebhjkbfmaaGreat
/- Walks: is it 1? -/
namespace Go.Proofs.YtdanaebhjkbfmaaGreat
open Go.RowKit
set_option linter.unusedVariables false
set_option linter.unusedSimpArgs false
end Go.Proofs.YtdanaebhjkbfmaaGreat
/- Walks: quotients without a rest, products, sums, copies of rat's own. -/
namespace Go.Proofs.YtdanaebhjkbfmaaGreat
open Go.RowKit
set_option linter.unusedVariables false
set_option linter.unusedSimpArgs false
end Go.Proofs.YtdanaebhjkbfmaaGreat
/- Walks: powers of 2, common divisors. -/
namespace Go.Proofs.YtdanaebhjkbfmaaGreat
open Go.RowKit
set_option linter.unusedVariables false
set_option linter.unusedSimpArgs false
end Go.Proofs.YtdanaebhjkbfmaaGreat
/- Rationals in variables: two handed in, a result to come; two numbers made beside each other. -/
namespace Go.Proofs.YtdanaebhjkbfmaaGreat
open Go.RowKit
set_option linter.unusedVariables false
set_option linter.unusedSimpArgs false
/-- a rational's result, not written yet -/
def Fresh3 (W : World) (r : Nat) : Prop := (∀ j, W.frozen? ⟨r, j, none⟩ = false) ∧ W.cell? ⟨r, 0, none⟩ = some (.bool false) ∧ W.cell? ⟨r, 1, none⟩ = some (.slice none 0 0) ∧ W.cell? ⟨r, 2, none⟩ = some (.slice none 0 0)
theorem Fresh3.later {W w2 : World} {B r : Nat} (k : Fresh3 W r) (h : Below B W w2) (hr : r < B) : Fresh3 w2 r :=
  ⟨fun j => (h.frozen (p := ⟨r, j, none⟩) hr).trans (k.1 j), (h.cell (p := ⟨r, 0, none⟩) hr).trans k.2.1, (h.cell (p := ⟨r, 1, none⟩) hr).trans k.2.2.1, (h.cell (p := ⟨r, 2, none⟩) hr).trans k.2.2.2⟩
/-- a rational that was handed in lies in a variable of its own -/
def Boxed3 (W : World) (r : Nat) (neg : Bool) (ao : Option Addr) (l c : Nat) (bo : Option Addr) (lb cb : Nat) : Prop := W.cell? ⟨r, 0, none⟩ = some (.bool neg) ∧ W.cell? ⟨r, 1, none⟩ = some (.slice ao l c) ∧ W.cell? ⟨r, 2, none⟩ = some (.slice bo lb cb)
theorem Boxed3.later {W w2 : World} {B r : Nat} {neg : Bool} {ao bo : Option Addr} {l c lb cb : Nat} (k : Boxed3 W r neg ao l c bo lb cb) (h : Below B W w2) (hr : r < B) : Boxed3 w2 r neg ao l c bo lb cb :=
  ⟨(h.cell (p := ⟨r, 0, none⟩) hr).trans k.1, (h.cell (p := ⟨r, 1, none⟩) hr).trans k.2.1, (h.cell (p := ⟨r, 2, none⟩) hr).trans k.2.2⟩
theorem int_kept {X : World} {n : Bool} {ao : Option Addr} {l c r : Nat} {v : Int} {x y : Value} (h : IntAt X n ao l c v) (hf : Fresh X r) : IntAt ((X.setCell ⟨r, 0, none⟩ x).setCell ⟨r, 1, none⟩ y) n ao l c v := ⟨h.sg, h.row.kept hf _ _⟩
end Go.Proofs.YtdanaebhjkbfmaaGreat
