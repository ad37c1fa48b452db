/-
  Walks: digits of 32 bits.
-/
import Derived.Test.YtegggnjghnbdbaaW9
import Derived.Test.YtegggnjghnbdbaaAdd
import Derived.Deep.AppendLies
namespace Go.Proofs.Ytegggnjghnbdbaa
open Go.RowKit
set_option linter.unusedVariables false
set_option linter.unusedSimpArgs false

theorem own_from {w : World} {B : Nat} {t : TypeId} {v : Value} {n : Nat} {xs : List Value} (h : w.ownsRow B t 1 v n xs) : ∀ k, v.ownBlock = some k → B ≤ k := by
  intro k hk
  rcases h.2 with ⟨hv, _⟩ | ⟨g, cap, cur, hv, hg, _⟩
  · subst hv; simp [Value.ownBlock] at hk
  · subst hv; simp [Value.ownBlock] at hk; omega
theorem row_of_owns {w : World} {B : Nat} {t : TypeId} {k : IntKind} {v : Value} {n : Nat} {L : List Int} (hl : L.length = n) (h : w.ownsRow B t 1 v n (L.map (Value.int k))) : ∃ ao cap, v = .slice ao n cap ∧ RowAt w k ao n cap L := by
  rcases h.2 with ⟨hv, h0⟩ | ⟨g, cap, cur, hv, hg, hh, hc1, _, hs, ht⟩
  · subst hv; subst h0
    exact ⟨none, 0, rfl, hl.symm, Nat.le_refl _, fun _ => rfl, Or.inl rfl⟩
  · refine ⟨_, _, hv, hl.symm, hc1, fun e => (by cases e), Or.inr ⟨g, 0, rfl, ?_, fun t' ht' => ?_⟩⟩
    · by_cases e : g < w.heap.size
      · exact e
      · rw [Array.getElem?_eq_none (by omega)] at hh; cases hh
    · have e : cur[t']? = some (.int k (dig L t')) := by
        have e1 : cur.toList[t']? = some (.int k (dig L t')) := by
          have : (cur.toList.take (n * 1))[t']? = (L.map (Value.int k))[t']? := by rw [ht]
          rw [List.getElem?_take, if_pos (by omega)] at this
          rw [this]; simp [dig, show t' < L.length by omega]
        simpa using e1
      simp [World.cell?, hh, e]
theorem cap_of_owns {w : World} {B : Nat} {t : TypeId} {ao : Option Addr} {n cap : Nat} {xs : List Value} (h : w.ownsRow B t 1 (.slice ao n cap) n xs) : cap ≤ 9223372036854775807 := by
  rcases h.2 with ⟨hv, _⟩ | ⟨g, cap', cur, hv, hg, hh, hc1, hm, _⟩
  · cases hv; omega
  · cases hv; exact hm

theorem half_len_le {n l : Nat} (h : l = (mag n).length) : (half n).length ≤ 2 * l := by
  have h0 := mag_val n
  have h1 := val_lt (q := 18446744073709551616) (by decide) (mag_wd n)
  rw [h0, ← h] at h1
  have e : (18446744073709551616 : Int) ^ l = 4294967296 ^ (2 * l) := by
    rw [Int.pow_mul]; rfl
  rw [e] at h1
  by_cases e0 : half n = []
  · rw [e0]; exact Nat.zero_le _
  · have h2 := val_ge (q := 4294967296) (by decide) (half_wd n) (half_can n) e0
    rw [half_val] at h2
    by_cases hk : (half n).length ≤ 2 * l
    · exact hk
    · have h3 := pow_mono' (q := 4294967296) (by decide) (show 2 * l ≤ (half n).length - 1 by omega)
      omega

/-- a word's two halves, the lower first -/
def twice : List Int → List Int
  | [] => []
  | z :: r => z % 4294967296 :: z / 4294967296 :: twice r
theorem twice_length (zs : List Int) : (twice zs).length = 2 * zs.length := by
  induction zs with
  | nil => rfl
  | cons z r ih => simp only [twice, List.length_cons, ih]; omega
theorem twice_append (a b : List Int) : twice (a ++ b) = twice a ++ twice b := by
  induction a with
  | nil => rfl
  | cons z r ih => simp only [List.cons_append, twice, ih]
theorem twice_wd {zs : List Int} (h : Wd 18446744073709551616 zs) : Wd 4294967296 (twice zs) := by
  induction zs with
  | nil => exact Wd.nil _
  | cons z r ih =>
    have := h.head
    exact Wd.cons (by omega) (Wd.cons (by omega) (ih h.tail))
theorem twice_val (zs : List Int) : val 4294967296 (twice zs) = val 18446744073709551616 zs := by
  induction zs with
  | nil => rfl
  | cons z r ih => simp only [twice, val, ih]; omega

end Go.Proofs.Ytegggnjghnbdbaa
