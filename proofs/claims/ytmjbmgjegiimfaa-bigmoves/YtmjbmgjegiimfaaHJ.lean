/-
  Walks: a copy, an answer held against the page's, what is refused.
-/
import Derived.Test.YtmjbmgjegiimfaaHI
import Derived.Test.YtmjbmgjegiimfaaHF
namespace Go.Proofs.Ytmjbmgjegiimfaa
open Go.RowKit
set_option linter.unusedVariables false
set_option linter.unusedSimpArgs false

theorem RowAt.cellKept {w : World} {k : IntKind} {ao : Option Addr} {len cap r j : Nat} {zs : List Int} {v : Value} (h : RowAt w k ao len cap zs) (hv : w.cell? ⟨r, j, none⟩ = some v) (hn : ∀ z, v ≠ .int k z) (x : Value) : RowAt (w.setCell ⟨r, j, none⟩ x) k ao len cap zs := by
  refine ⟨h.hlen, h.hcap, h.hnil, ?_⟩
  rcases h.hat with h0 | ⟨b, off, h1, hlt, h2⟩
  · exact Or.inl h0
  · refine Or.inr ⟨b, off, h1, by simpa [World.setCell] using hlt, fun t ht => ?_⟩
    have hc := h2 t ht
    rw [setCell_ne]
    · exact hc
    · rintro ⟨e1, e2⟩
      simp only at e1 e2
      rw [e1, e2, hv] at hc
      exact hn _ (Option.some.inj hc)
theorem eqint_same (neg : Bool) (ao bo : Option Addr) (la ca lb cb : Nat) (x : List Int) (w : World) (hx : RowAt w .u64 ao la ca x) (hy : RowAt w .u64 bo lb cb x) (hl : la ≤ 4611686018427387904) :
    Calls Try.prog 32 #[.agg #[.bool neg, .slice ao la ca], .agg #[.bool neg, .slice bo lb cb]] w fun e w' => e = .returned (.bool true) ∧ Below w.heap.size w w' := by
  refine (eqint_any neg neg ao bo la ca lb cb x x w hx hy hl).mono fun e w' h => ?_
  simpa using h

theorem may_num {na nb : Bool} {a b : Int} (hs : na = sgB a) (hu : nb = sgB b) : (if mayB na (mag a.natAbs) && mayB nb (mag b.natAbs) then 0 else 10 : Int) = 0 := by rw [hs, hu, may_int, may_int]; rfl
theorem neg_at {w : World} {neg : Bool} {ao : Option Addr} {l c : Nat} {v : Int} (h : IntAt w neg ao l c v) : IntAt w (!neg && decide (0 < l)) ao l c (-v) := by
  refine ⟨?_, by rw [Int.natAbs_neg]; exact h.row⟩
  rcases h.three with ⟨h1, rfl, h2⟩ | ⟨h1, rfl, h2⟩ | ⟨h1, rfl, h2⟩
  · simp [sgB]; omega
  · subst h1; simp [sgB, h2]
  · simp [sgB, h2]; omega

/-- an answer that is right is told so, and written over -/
def IsTrue (B : Nat) (ao : Option Addr) (w w' : World) (e : Ending) : Prop := e = .returned (.bool true) ∧ Below B w w' ∧ Stay ao w w'
set_option maxRecDepth 100000 in
set_option maxHeartbeats 1000000 in
theorem is_good (B : Nat) (n1 n2 : Bool) (ao1 ao2 : Option Addr) (l1 c1 l2 c2 : Nat) (v : Int) (w : World) (hs : n1 = sgB v) (ho : Own B w .u64 44 ao1 l1 c1 (mag v.natAbs)) (hB : B ≤ w.heap.size) (hy : IntAt w n2 ao2 l2 c2 v) (hl : l1 ≤ 4294967296) :
    Calls Try.prog 11 #[.agg #[.bool n1, .slice ao1 l1 c1], .int .i64 0, .int .i64 0, .agg #[.bool n2, .slice ao2 l2 c2]] w fun e w' => IsTrue B ao1 w w' e := by
  obtain ⟨W, hW⟩ : ∃ W, W = (w.alloc (.cells #[.bool n1, .slice ao1 l1 c1] 26)).alloc (.cells #[.bool n2, .slice ao2 l2 c2] 26) := ⟨_, rfl⟩
  have HW : Hid (Below w.heap.size w W ∧ W.heap.size = w.heap.size + 2 ∧ Boxed W w.heap.size n1 ao1 l1 c1 ∧ Boxed W (w.heap.size + 1) n2 ao2 l2 c2) := by
    rw [hW]
    exact ⟨((Below.refl _ _).alloc (Nat.le_refl _) _).alloc (by simp) _, by simp, ⟨by simp [go_sem], by simp [go_sem]⟩, ⟨by simp [go_sem], by simp [go_sem]⟩⟩
  have HO : Hid (IntAt W n1 ao1 l1 c1 v ∧ IntAt W n2 ao2 l2 c2 v ∧ Own B W .u64 44 ao1 l1 c1 (mag v.natAbs)) := ⟨(ho.later HW.out.1).int hs, hy.later HW.out.1, ho.later HW.out.1⟩
  have hsz : W.heap.size = w.heap.size + 2 := HW.out.2.1
  clear hs ho hy
  go_enter Try.func11, Try.ntmps11
  go_wp2_with (first
    | (go_at_call 31; rw [← hW]; clear hW; refine (num_any 0 _).mono ?_; rintro e w1 ⟨rfl, hw1⟩; replace hw1 := hw1.symm; subst hw1; obtain ⟨⟨p0, p1⟩, p2, p3⟩ := HW.out.2.2)
    | (go_at_call 32; refine (eqint_at n1 n2 ao1 ao2 l1 c1 l2 c2 v v _ HO.out.1 HO.out.2.1 (by omega) true (decide_eq_true rfl)).mono ?_; rintro e w2 ⟨rfl, hb2⟩; clear p0 p1 p2 p3; obtain ⟨p0, p1⟩ := HW.out.2.2.1.later hb2 (by omega))
    | (go_at_call 33; refine (spoil_any B n1 ao1 l1 c1 (mag v.natAbs) _ (HO.out.2.2.later hb2) (by have := hb2.size; omega) (by omega)).mono ?_; rintro e w3 ⟨rfl, hb3, hsy⟩))
  go_ret
  exact ⟨rfl, (below_less (bnext HW.out.1 hb2) hB).trans hb3, Stay.after (bnext HW.out.1 hb2) hsy⟩

set_option maxRecDepth 100000 in
set_option maxHeartbeats 1000000 in
theorem is_bad (n2 : Bool) (ao2 : Option Addr) (l2 c2 : Nat) (c : Int) (w : World) (hc : c ≠ 0) :
    Calls Try.prog 11 #[.agg #[.bool false, .slice none 0 0], .int .i64 c, .int .i64 c, .agg #[.bool n2, .slice ao2 l2 c2]] w fun e w' => IsTrue w.heap.size none w w' e := by
  obtain ⟨W, hW⟩ : ∃ W, W = (w.alloc (.cells #[.bool false, .slice none 0 0] 26)).alloc (.cells #[.bool n2, .slice ao2 l2 c2] 26) := ⟨_, rfl⟩
  have HW : Hid (Below w.heap.size w W ∧ W.heap.size = w.heap.size + 2 ∧ Boxed W w.heap.size false none 0 0) := by
    rw [hW]
    exact ⟨((Below.refl _ _).alloc (Nat.le_refl _) _).alloc (by simp) _, by simp, ⟨by simp [go_sem], by simp [go_sem]⟩⟩
  have hc' : ¬ c = 0 := hc
  clear hc
  go_enter Try.func11, Try.ntmps11
  go_wp2_with (first
    | (go_at_call 31; rw [← hW]; clear hW; refine (num_any c _).mono ?_; rintro e w1 ⟨rfl, hw1⟩; replace hw1 := hw1.symm; subst hw1; obtain ⟨p0, p1⟩ := HW.out.2.2)
    | (go_at_call 32; refine (eqint_same false none none 0 0 0 0 [] _ (RowAt.nilRow _ _) (RowAt.nilRow _ _) (by omega)).mono ?_; rintro e w2 ⟨rfl, hb2⟩))
  go_ret
  exact ⟨rfl, bnext HW.out.1 hb2, (Stay.refl _ _).next (bnext HW.out.1 hb2)⟩
end Go.Proofs.Ytmjbmgjegiimfaa
