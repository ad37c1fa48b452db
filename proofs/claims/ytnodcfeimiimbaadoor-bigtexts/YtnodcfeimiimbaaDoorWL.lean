/-
  Walks: Cmp, Small.
-/
import Derived.Test.YtnodcfeimiimbaaDoorWK
namespace Go.Proofs.YtnodcfeimiimbaaDoor
open Go.RowKit
set_option linter.unusedVariables false
set_option linter.unusedSimpArgs false

/-- the word of a number that has one -/
theorem mag_one {n : Nat} (h : 0 < n) (h1 : n < 18446744073709551616) : mag n = [(n : Int)] := mag_of (Wd.one (by omega)) (by simp [Can]; omega) (by simp [val])
theorem mag_two {n : Nat} (h : 18446744073709551616 ≤ n) : 1 < (mag n).length := by
  by_cases e : (mag n).length ≤ 1
  · exfalso
    have h1 := mag_len_lt (n := n) rfl
    have h2 := pow_mono' (q := 18446744073709551616) (by decide) e
    omega
  · omega

set_option maxRecDepth 100000 in
set_option maxHeartbeats 400000 in
theorem lowLimb_any (ao : Option Addr) (len cap : Nat) (zs : List Int) (w : World) (hr : RowAt w .u64 ao len cap zs) :
    Calls Tryd.prog 43 #[.slice ao len cap] w fun e w' => e = .returned (.int .u64 (dig zs 0)) ∧ w' = w := by
  by_cases hp : 0 < len
  · obtain ⟨b, off, rfl, hlt, hc⟩ := hr.get hp
    have hcell := hc 0 hp
    obtain ⟨z, hz⟩ : ∃ z, dig zs 0 = z := ⟨_, rfl⟩
    rw [hz] at hcell ⊢
    have hl0 : ((len : Int) == 0) = false := by simp; omega
    clear hc hr hz
    simp only [Nat.add_zero] at hcell
    go_enter Tryd.func43, Tryd.ntmps43
    go_wp2
    go_ret
    exact ⟨rfl, rfl⟩
  · obtain rfl : len = 0 := by omega
    obtain rfl : zs = [] := List.eq_nil_of_length_eq_zero hr.hlen.symm
    go_enter Tryd.func43, Tryd.ntmps43
    go_wp2
    go_ret
    exact ⟨rfl, rfl⟩

end Go.Proofs.YtnodcfeimiimbaaDoor
