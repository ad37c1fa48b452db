/-
  Walks: is it a number? (Check, NMay, May)
-/
import Derived.Test.YtnodcfeimiimbaaDoorFacts
namespace Go.Proofs.YtnodcfeimiimbaaDoor
open Go.RowKit
set_option linter.unusedVariables false
set_option linter.unusedSimpArgs false

theorem mayB_len {neg : Bool} {zs : List Int} {len : Nat} (hl : len = zs.length) (hp : 0 < len) : mayB neg zs = (dig zs (len - 1) != 0) := by
  subst hl; exact mayB_last (List.length_pos_iff.1 hp)
/-- the magnitude alone -/
def nmayB (zs : List Int) : Bool := mayB false zs
theorem nmayB_len {zs : List Int} {len : Nat} (hl : len = zs.length) (hp : 0 < len) : nmayB zs = (dig zs (len - 1) != 0) := mayB_len hl hp

set_option maxRecDepth 100000 in
set_option maxHeartbeats 400000 in
theorem check_any (neg : Bool) (ao : Option Addr) (len cap : Nat) (zs : List Int) (w : World) (hr : RowAt w .u64 ao len cap zs) (hl : len ≤ 4611686018427387904) :
    Calls Tryd.prog 14 #[.agg #[.bool neg, .slice ao len cap]] w fun e w' => e = .returned (.int .i64 (if mayB neg zs then 0 else 10)) ∧ Below w.heap.size w w' := by
  by_cases hp : 0 < len
  · obtain ⟨b, off, rfl, hlt, hc⟩ := hr.get hp
    have hcell := hc (len - 1) (by omega)
    rw [mayB_len hr.hlen hp]
    clear hc hr
    obtain ⟨z, hz⟩ : ∃ z, dig zs (len - 1) = z := ⟨_, rfl⟩
    rw [hz] at hcell ⊢
    clear hz
    by_cases h0 : z = 0
    · subst h0
      go_enter Tryd.func14, Tryd.ntmps14
      go_wp2
      go_ret
      exact ⟨rfl, (Below.refl _ _).alloc (Nat.le_refl _) _⟩
    · have h1 : (z == 0) = false := by simpa using h0
      have h2 : (z != 0) = true := by simpa using h0
      rw [h2]
      go_enter Tryd.func14, Tryd.ntmps14
      go_wp2
      go_ret
      exact ⟨rfl, (Below.refl _ _).alloc (Nat.le_refl _) _⟩
  · obtain rfl : len = 0 := by omega
    obtain rfl : zs = [] := List.eq_nil_of_length_eq_zero hr.hlen.symm
    cases neg
    all_goals
      go_enter Tryd.func14, Tryd.ntmps14
      go_wp2
      go_ret
      exact ⟨rfl, (Below.refl _ _).alloc (Nat.le_refl _) _⟩

set_option maxRecDepth 100000 in
set_option maxHeartbeats 400000 in
theorem nmay_any (ao : Option Addr) (len cap : Nat) (zs : List Int) (w : World) (hr : RowAt w .u64 ao len cap zs) (hl : len ≤ 4611686018427387904) :
    Calls Tryd.prog 28 #[.slice ao len cap] w fun e w' => e = .returned (.bool (nmayB zs)) ∧ w' = w := by
  by_cases hp : 0 < len
  · obtain ⟨b, off, rfl, hlt, hc⟩ := hr.get hp
    have hcell := hc (len - 1) (by omega)
    rw [nmayB_len hr.hlen hp]
    clear hc hr
    obtain ⟨z, hz⟩ : ∃ z, dig zs (len - 1) = z := ⟨_, rfl⟩
    rw [hz] at hcell ⊢
    clear hz
    have hl0 : ((len : Int) == 0) = false := by simp; omega
    go_enter Tryd.func28, Tryd.ntmps28
    go_wp2
    go_ret
    exact ⟨rfl, rfl⟩
  · obtain rfl : len = 0 := by omega
    obtain rfl : zs = [] := List.eq_nil_of_length_eq_zero hr.hlen.symm
    go_enter Tryd.func28, Tryd.ntmps28
    go_wp2
    go_ret
    exact ⟨rfl, rfl⟩
end Go.Proofs.YtnodcfeimiimbaaDoor
