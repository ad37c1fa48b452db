/-
  HT, HU.
-/
import Derived.Test.YtiiefpnkpfliiaaGreatDoorHH

/- Walks: the page's texts (digits). -/
namespace Go.Proofs.YtiiefpnkpfliiaaGreatDoor
open Go.RowKit
set_option linter.unusedVariables false
set_option linter.unusedSimpArgs false

/-- byte k of a text (0 beyond its end) -/
def byteAt (s : ByteArray) (k : Nat) : Nat := if h : k < s.size then s[k].toNat else 0
theorem byteAt_of {s : ByteArray} {k : Nat} (h : k < s.size) : byteAt s k = s[k].toNat := by simp [byteAt, h]
/-- a magnitude's digits, as the page says -/
def Dig (s : ByteArray) : Prop := (∀ j, j < s.size → 48 ≤ byteAt s j ∧ byteAt s j ≤ 57) ∧ 0 < s.size ∧ s.size ≤ 1024 ∧ (byteAt s 0 = 48 → s.size = 1)
/-- the number of its first k digits -/
def decVal (s : ByteArray) : Nat → Nat
  | 0 => 0
  | k + 1 => decVal s k * 10 + (byteAt s k - 48)
theorem decVal_lt {s : ByteArray} (h : Dig s) : (k : Nat) → k ≤ s.size → decVal s k < 10 ^ k
  | 0, _ => by simp [decVal]
  | k + 1, hk => by
    have ih := decVal_lt h k (by omega)
    have h1 := h.1 k (by omega)
    rw [decVal, Nat.pow_succ]; omega
theorem decVal_len {s : ByteArray} (h : Dig s) {k : Nat} (hk : k ≤ s.size) : (mag (decVal s k)).length ≤ k := by
  have h1 := decVal_lt h k hk
  have h2 : 10 ^ k ≤ 2 ^ (64 * k) := by rw [Nat.pow_mul]; exact Nat.pow_le_pow_left (by decide) _
  exact two_len (Nat.lt_of_lt_of_le h1 h2) (Nat.le_refl _)
def DigOut (s : ByteArray) (w w' : World) (e : Ending) : Prop := w' = w ∧ ((e = .returned (.bool true) ∧ Dig s) ∨ (e = .returned (.bool false) ∧ ¬ Dig s))

/-- what reading digits tells -/
def ParseOut (s : ByteArray) (w w' : World) (e : Ending) : Prop := Below w.heap.size w w' ∧ ((∃ ao l c, e = .returned (.tuple #[.slice ao l c, .bool true]) ∧ Dig s ∧ RowAt w' .u64 ao l c (mag (decVal s s.size))) ∨ (e = .returned (.tuple #[.slice none 0 0, .bool false]) ∧ ¬ Dig s))

end Go.Proofs.YtiiefpnkpfliiaaGreatDoor

/- Walks: the page's Parse. -/
namespace Go.Proofs.YtiiefpnkpfliiaaGreatDoor
open Go.RowKit
set_option linter.unusedVariables false
set_option linter.unusedSimpArgs false

/-- a sign stands ahead -/
def Signed (s : ByteArray) : Prop := 0 < s.size ∧ byteAt s 0 = 45
/-- what the page's Parse tells: of digits d behind a sign or none -/
def RParse (neg : Bool) (d : ByteArray) (w w' : World) (e : Ending) : Prop :=
  Below w.heap.size w w' ∧ ((∃ n ao l c, e = .returned (.tuple #[.agg #[.bool n, .slice ao l c], .int .i64 0]) ∧ Dig d ∧ (neg = true → decVal d d.size ≠ 0) ∧ IntAt w' n ao l c (sgn neg (decVal d d.size))) ∨ (e = .returned (.tuple #[.agg #[.bool false, .slice none 0 0], .int .i64 13]) ∧ ¬ (Dig d ∧ (neg = true → decVal d d.size ≠ 0))))
end Go.Proofs.YtiiefpnkpfliiaaGreatDoor
