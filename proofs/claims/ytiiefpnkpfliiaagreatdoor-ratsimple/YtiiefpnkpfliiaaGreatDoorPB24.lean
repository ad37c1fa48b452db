/-
  Walks: a quotient by 0; the page's quotient; copies; answers that are written over. (gen/rmore.py)
-/
import Derived.Test.YtiiefpnkpfliiaaGreatDoorPB15
import Derived.Test.YtiiefpnkpfliiaaGreatDoorPB16
import Derived.Test.YtiiefpnkpfliiaaGreatDoorPB20
import Derived.Test.YtiiefpnkpfliiaaGreatDoorPB23
namespace Go.Proofs.YtiiefpnkpfliiaaGreatDoor
open Go.RowKit
set_option linter.unusedVariables false
set_option linter.unusedSimpArgs false
set_option maxRecDepth 100000 in
set_option maxHeartbeats 4000000 in
theorem two2_any (na nb : Bool) (ao po bo qo : Option Addr) (la ca lp cp lb cb lq cq : Nat) (N : Int) (x d y f : List Int) (w : World) (hx : RowAt w .u64 ao la ca x) (wx : Wd 18446744073709551616 x) (hd : RowAt w .u64 po lp cp d) (wd : Wd 18446744073709551616 d) (hy : RowAt w .u64 bo lb cb y) (wy : Wd 18446744073709551616 y) (hf : RowAt w .u64 qo lq cq f) (wf : Wd 18446744073709551616 f) (hla : la ≤ 16777216) (hlp : lp ≤ 16777216) (hlb : lb ≤ 16777216) (hlq : lq ≤ 16777216) (c : Int) (hc : (if mayR na x d && mayR nb y f then 0 else 20 : Int) = c) :
    Calls Tryz.prog 27 #[.agg #[.bool na, .slice ao la ca, .slice po lp cp, .bool nb, .slice bo lb cb, .slice qo lq cq, .int .i64 N]] w fun e w' => e = .returned (.int .i64 c) ∧ Below w.heap.size w w' := by
  obtain ⟨W, hT⟩ := InR.mk' w na nb ao po bo qo la ca lp cp lb cb lq cq N
  have hsz := hT.size
  have RX : Hid (RowAt W .u64 ao la ca x ∧ RowAt W .u64 po lp cp d) := ⟨hx.later hT.below, hd.later hT.below⟩
  have RY : Hid (RowAt W .u64 bo lb cb y ∧ RowAt W .u64 qo lq cq f) := ⟨hy.later hT.below, hf.later hT.below⟩
  clear hx hd hy hf
  cases h1 : mayR na x d
  · obtain rfl : c = 20 := by rw [← hc, h1]; rfl
    have H1 : Hid (mayR na x d = false) := h1
    clear h1 hc
    go_enter Tryz.func27, Tryz.ntmps27
    go_wp2_with (go_at_call 7; rw [← hT.eq]; refine (qmay_any na ao po la ca lp cp x d _ RX.out.1 wx RX.out.2 wd hla hlp false H1.out).mono ?_; rintro e w1 ⟨rfl, hb1⟩; obtain ⟨q0, q1, q2, q3, q4, q5, q6⟩ := hT.p.later hb1 (by omega))
    go_ret
    exact ⟨rfl, bnext hT.below hb1⟩
  · have H1 : Hid (mayR na x d = true) := h1
    cases h2 : mayR nb y f
    · obtain rfl : c = 20 := by rw [← hc, h1, h2]; rfl
      have H2 : Hid (mayR nb y f = false) := h2
      clear h1 h2 hc
      go_enter Tryz.func27, Tryz.ntmps27
      go_wp2_with (first
        | (go_at_call 7; have _t := hb1; refine (qmay_any nb bo qo lb cb lq cq y f _ (RY.out.1.later hb1) wy (RY.out.2.later hb1) wf hlb hlq false H2.out).mono ?_; rintro e w2 ⟨rfl, hb2⟩)
        | (go_at_call 7; rw [← hT.eq]; refine (qmay_any na ao po la ca lp cp x d _ RX.out.1 wx RX.out.2 wd hla hlp true H1.out).mono ?_; rintro e w1 ⟨rfl, hb1⟩; obtain ⟨q0, q1, q2, q3, q4, q5, q6⟩ := hT.p.later hb1 (by omega)))
      go_ret
      exact ⟨rfl, bnext hT.below (bnext hb1 hb2)⟩
    · obtain rfl : c = 0 := by rw [← hc, h1, h2]; rfl
      have H2 : Hid (mayR nb y f = true) := h2
      clear h1 h2 hc
      go_enter Tryz.func27, Tryz.ntmps27
      go_wp2_with (first
        | (go_at_call 7; have _t := hb1; refine (qmay_any nb bo qo lb cb lq cq y f _ (RY.out.1.later hb1) wy (RY.out.2.later hb1) wf hlb hlq true H2.out).mono ?_; rintro e w2 ⟨rfl, hb2⟩)
        | (go_at_call 7; rw [← hT.eq]; refine (qmay_any na ao po la ca lp cp x d _ RX.out.1 wx RX.out.2 wd hla hlp true H1.out).mono ?_; rintro e w1 ⟨rfl, hb1⟩; obtain ⟨q0, q1, q2, q3, q4, q5, q6⟩ := hT.p.later hb1 (by omega)))
      go_ret
      exact ⟨rfl, bnext hT.below (bnext hb1 hb2)⟩
/-- of what was there all stays, but for the two slices' own blocks -/
def Stay2 (ao po : Option Addr) (w w' : World) : Prop := ∀ k, k < w.heap.size → (∀ p : Addr, ao = some p → p.block ≠ k) → (∀ p : Addr, po = some p → p.block ≠ k) → w'.heap[k]? = w.heap[k]?
theorem Stay2.of {ao po : Option Addr} {w w1 w2 : World} (h1 : Stay ao w w1) (h2 : Stay po w1 w2) : Stay2 ao po w w2 := fun k hk ha hp => (h2.block k (Nat.lt_of_lt_of_le hk h1.size) hp).trans (h1.block k hk ha)
end Go.Proofs.YtiiefpnkpfliiaaGreatDoor
