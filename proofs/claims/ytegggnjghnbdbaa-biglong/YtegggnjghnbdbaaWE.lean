/-
  Walks: whole.
-/
import Derived.Test.YtegggnjghnbdbaaWD
namespace Go.Proofs.Ytegggnjghnbdbaa
open Go.RowKit
set_option linter.unusedVariables false
set_option linter.unusedSimpArgs false

/-- digits two by two -/
def join : List Int → List Int
  | [] => []
  | [a] => [a]
  | a :: b :: r => (a + 4294967296 * b) :: join r
theorem join_val : ∀ ds : List Int, val 18446744073709551616 (join ds) = val 4294967296 ds
  | [] => rfl
  | [a] => by simp [join, val]
  | a :: b :: r => by simp only [join, val, join_val r]; omega
theorem join_wd : ∀ {ds : List Int}, Wd 4294967296 ds → Wd 18446744073709551616 (join ds)
  | [], _ => Wd.nil _
  | [a], h => Wd.one (by have := h.head; omega)
  | a :: b :: r, h => Wd.cons (by have := h.head; have := h.tail.head; omega) (join_wd h.tail.tail)
theorem join_even : ∀ {p : List Int} {k : Nat}, p.length = 2 * k → ∀ s, join (p ++ s) = join p ++ join s
  | [], _, _, s => rfl
  | [a], k, h, s => by simp at h; omega
  | a :: b :: r, k, h, s => by
    have : r.length = 2 * (k - 1) := by simp at h; omega
    simp only [List.cons_append, join, join_even this s]
theorem join_len : ∀ {p : List Int} {k : Nat}, p.length = 2 * k → (join p).length = k
  | [], k, h => by simp at h; simp [join]; omega
  | [a], k, h => by simp at h; omega
  | a :: b :: r, k, h => by
    have : r.length = 2 * (k - 1) := by simp at h; omega
    simp only [join, List.length_cons, join_len this]; simp at h; omega
theorem or_shift (a b : Int) (ha : 0 ≤ a ∧ a < 4294967296) (hb : 0 ≤ b ∧ b < 4294967296) : bits .or .u64 a (b * 4294967296) = a + 4294967296 * b := by
  obtain ⟨a, rfl⟩ := Int.eq_ofNat_of_zero_le ha.1
  obtain ⟨b, rfl⟩ := Int.eq_ofNat_of_zero_le hb.1
  have h := bits_or_u64_nat a (b * 4294967296) (by omega) (by omega)
  have e : a ||| b * 4294967296 = b * 4294967296 + a := by
    have := Nat.shiftLeft_add_eq_or_of_lt (i := 32) (b := a) (by omega) b
    rw [Nat.shiftLeft_eq] at this
    rw [Nat.or_comm]; exact this.symm
  rw [e] at h
  rw [Int.natCast_mul] at h
  refine h.trans ?_
  rw [Int.natCast_add, Int.natCast_mul, Int.add_comm, Int.mul_comm]; rfl

end Go.Proofs.Ytegggnjghnbdbaa
