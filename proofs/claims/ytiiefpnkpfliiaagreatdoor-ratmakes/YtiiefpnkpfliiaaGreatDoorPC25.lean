/-
  A pack of walks and facts: RO.
-/
import Derived.Test.YtiiefpnkpfliiaaGreatDoorPC18
set_option maxRecDepth 100000
set_option maxHeartbeats 40000000
set_option linter.unusedVariables false
set_option linter.unusedSimpArgs false
namespace Go.Proofs.YtiiefpnkpfliiaaGreatDoor
open Go.RowKit
theorem isWhole_any (na : Bool) (ao po : Option Addr) (la ca lp cp : Nat) (d : Nat) (w : World) (hr : RowAt w .u64 po lp cp (mag d)) (b : Bool) (hb : decide (d = 1) = b) :
  Calls Tryz.prog 19 #[.agg #[.bool na, .slice ao la ca, .slice po lp cp]] w fun e w' => e = .returned (.bool b) ∧ Below w.heap.size w w' := by
 obtain ⟨W, hT⟩ := ROne1.mk' w na ao po la ca lp cp
 have HB : Hid (Below w.heap.size w (w.alloc (.cells #[.bool na, .slice ao la ca, .slice po lp cp] 28))) := hT.eq ▸ hT.below
 clear hT
 by_cases h1 : lp = 1
 ·
  subst h1
  obtain ⟨g, off, rfl, hlt, hc⟩ := hr.get (by decide)
  have hcell := hc 0 (by decide)
  rw [one_limb hr.hlen.symm, Nat.add_zero] at hcell
  have HQ : Hid (((d : Int) == 1) = b) := by
   show _ = _
   rw [← hb]
   by_cases e : d = 1
   ·
    subst e; rfl
   ·
    rw [decide_eq_false e]; simp; omega
  clear hc hr hb
  go_enter Tryz.func19, Tryz.ntmps19
  go_wp2
  go_ret
  exact ⟨ret_bool HQ.out, HB.out⟩
 ·
  have e : d ≠ 1 := fun e => by subst e; have := hr.hlen; rw [one_word] at this; exact h1 this
  obtain rfl : b = false := by rw [← hb]; exact decide_eq_false e
  have hne : ((lp : Int) == 1) = false := by simp; omega
  clear hr hb
  go_enter Tryz.func19, Tryz.ntmps19
  go_wp2
  go_ret
  exact ⟨rfl, HB.out⟩
end Go.Proofs.YtiiefpnkpfliiaaGreatDoor
