/-
  What is too long for a round.
-/
import Derived.Test.YtiiefpnkpfliiaaGreatDoorRL
namespace Go.Proofs.YtiiefpnkpfliiaaGreatDoor
open Go.RowKit
set_option linter.unusedVariables false
set_option linter.unusedSimpArgs false

set_option maxRecDepth 100000 in
set_option maxHeartbeats 1000000 in
theorem heavyR_any (na nb : Bool) (ao po bo qo : Option Addr) (la ca lp cp lb cb lq cq : Nat) (N : Int) (w : World) (c : Bool) (hc : ((decide ((8 : Int) < (la : Int)) || decide ((8 : Int) < (lp : Int))) || (decide ((8 : Int) < (lb : Int)) || decide ((8 : Int) < (lq : Int)))) = c) :
    Calls Tryz.prog 6 #[.agg #[.bool na, .slice ao la ca, .slice po lp cp, .bool nb, .slice bo lb cb, .slice qo lq cq, .int .i64 N]] w fun e w' => e = .returned (.bool c) ∧ Below w.heap.size w w' := by
  obtain ⟨W, hT⟩ := InR.mk' w na nb ao po bo qo la ca lp cp lb cb lq cq N
  have hsz := hT.size
  cases h1 : (decide ((8 : Int) < (la : Int)) || decide ((8 : Int) < (lp : Int)))
  · have HC : Hid ((decide ((8 : Int) < (lb : Int)) || decide ((8 : Int) < (lq : Int))) = c) := by show _ = _; rw [← hc, h1, Bool.false_or]
    have H1 : Hid ((decide ((8 : Int) < (la : Int)) || decide ((8 : Int) < (lp : Int))) = false) := h1
    clear h1 hc
    go_enter Tryz.func6, Tryz.ntmps6
    go_wp2_with (first
      | (go_at_call 47; have _t := hb1; refine (longRat_any nb bo qo lb cb lq cq 8 _ c HC.out).mono ?_; rintro e w2 ⟨rfl, hb2⟩)
      | (go_at_call 47; rw [← hT.eq]; refine (longRat_any na ao po la ca lp cp 8 _ false H1.out).mono ?_; rintro e w1 ⟨rfl, hb1⟩; obtain ⟨q0, q1, q2, q3, q4, q5, q6⟩ := hT.p.later hb1 (by omega)))
    go_ret
    exact ⟨rfl, bnext hT.below (bnext hb1 hb2)⟩
  · obtain rfl : c = true := by rw [← hc, h1]; rfl
    have H1 : Hid ((decide ((8 : Int) < (la : Int)) || decide ((8 : Int) < (lp : Int))) = true) := h1
    clear h1 hc
    go_enter Tryz.func6, Tryz.ntmps6
    go_wp2_with (go_at_call 47; rw [← hT.eq]; refine (longRat_any na ao po la ca lp cp 8 _ true H1.out).mono ?_; rintro e w1 ⟨rfl, hb1⟩)
    go_ret
    exact ⟨rfl, bnext hT.below hb1⟩
end Go.Proofs.YtiiefpnkpfliiaaGreatDoor
