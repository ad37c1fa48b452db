/-
  Walks: a copy, an answer held against the page's, what is refused.
-/
import Derived.Test.YtiiefpnkpfliiaaGreatDoorHI0
import Derived.Test.YtiiefpnkpfliiaaGreatDoorHF
namespace Go.Proofs.YtiiefpnkpfliiaaGreatDoor
open Go.RowKit
set_option linter.unusedVariables false
set_option linter.unusedSimpArgs false

theorem RowAt.cellKept {w : World} {k : IntKind} {ao : Option Addr} {len cap r j : Nat} {zs : List Int} {v : Value} (h : RowAt w k ao len cap zs) (hv : w.cell? ⟨r, j, none⟩ = some v) (hn : ∀ z, v ≠ .int k z) (x : Value) : RowAt (w.setCell ⟨r, j, none⟩ x) k ao len cap zs := by
  refine ⟨h.hlen, h.hcap, h.hnil, ?_⟩
  rcases h.hat with h0 | ⟨b, off, h1, hlt, h2⟩
  · exact Or.inl h0
  · refine Or.inr ⟨b, off, h1, by simpa [World.setCell] using hlt, fun t ht => ?_⟩
    have hc := h2 t ht
    rw [setCell_ne]
    · exact hc
    · rintro ⟨e1, e2⟩
      simp only at e1 e2
      rw [e1, e2, hv] at hc
      exact hn _ (Option.some.inj hc)
theorem eqint_same (neg : Bool) (ao bo : Option Addr) (la ca lb cb : Nat) (x : List Int) (w : World) (hx : RowAt w .u64 ao la ca x) (hy : RowAt w .u64 bo lb cb x) (hl : la ≤ 4611686018427387904) :
    Calls Tryz.prog 11 #[.agg #[.bool neg, .slice ao la ca], .agg #[.bool neg, .slice bo lb cb]] w fun e w' => e = .returned (.bool true) ∧ Below w.heap.size w w' := by
  refine (eqint_any neg neg ao bo la ca lb cb x x w hx hy hl).mono fun e w' h => ?_
  simpa using h

set_option maxRecDepth 100000 in
set_option maxHeartbeats 1000000 in
theorem mul_bad (na nb : Bool) (ao bo : Option Addr) (la ca lb cb : Nat) (x y : List Int) (w : World) (hx : RowAt w .u64 ao la ca x) (hy : RowAt w .u64 bo lb cb y) (hl : la ≤ 4294967296) (hl' : lb ≤ 4294967296) (hm : (mayB na x && mayB nb y) = false) :
    Calls Tryz.prog 135 #[.agg #[.bool na, .slice ao la ca], .agg #[.bool nb, .slice bo lb cb]] w fun e w' => e = .returned (.tuple #[.agg #[.bool false, .slice none 0 0], .int .i64 10]) ∧ Below w.heap.size w w' := by
  obtain ⟨W, hT⟩ := Two3.mk' w na nb ao bo la ca lb cb
  have hsz := hT.size
  have hc : (if mayB na x && mayB nb y then 0 else 10 : Int) = 10 := by rw [hm]; rfl
  have HC : Hid _ := hc
  have hRx := hx.later hT.below
  have hRy := hy.later hT.below
  clear hc hm hx hy
  go_enter Tryz.func135, Tryz.ntmps135
  go_wp2_with (go_at_call 127; rw [← hT.eq]; refine (checkBoth_any na nb ao bo la ca lb cb x y _ hRx hRy (by omega) (by omega) 10 HC.out).mono ?_; rintro e w1 ⟨rfl, hb1⟩; obtain ⟨g5, g3, g4⟩ := hT.r.later hb1 (by omega))
  exact bodyPost_ret (v := .tuple #[.agg #[.bool false, .slice none 0 0], .int .i64 10]) (by simp [results, Tryz.results135, go_sem, g3, g4]) rfl
    ⟨rfl, below_store (bnext hT.below hb1) (by omega) _ _⟩

set_option maxRecDepth 100000 in
set_option maxHeartbeats 1000000 in
theorem gcd_bad (na nb : Bool) (ao bo : Option Addr) (la ca lb cb : Nat) (x y : List Int) (w : World) (hx : RowAt w .u64 ao la ca x) (hy : RowAt w .u64 bo lb cb y) (hl : la ≤ 4294967296) (hl' : lb ≤ 4294967296) (hm : (mayB na x && mayB nb y) = false) :
    Calls Tryz.prog 124 #[.agg #[.bool na, .slice ao la ca], .agg #[.bool nb, .slice bo lb cb]] w fun e w' => e = .returned (.tuple #[.agg #[.bool false, .slice none 0 0], .int .i64 10]) ∧ Below w.heap.size w w' := by
  obtain ⟨W, hT⟩ := Two3.mk' w na nb ao bo la ca lb cb
  have hsz := hT.size
  have hc : (if mayB na x && mayB nb y then 0 else 10 : Int) = 10 := by rw [hm]; rfl
  have HC : Hid _ := hc
  have hRx := hx.later hT.below
  have hRy := hy.later hT.below
  clear hc hm hx hy
  go_enter Tryz.func124, Tryz.ntmps124
  go_wp2_with (go_at_call 127; rw [← hT.eq]; refine (checkBoth_any na nb ao bo la ca lb cb x y _ hRx hRy (by omega) (by omega) 10 HC.out).mono ?_; rintro e w1 ⟨rfl, hb1⟩; obtain ⟨g5, g3, g4⟩ := hT.r.later hb1 (by omega))
  exact bodyPost_ret (v := .tuple #[.agg #[.bool false, .slice none 0 0], .int .i64 10]) (by simp [results, Tryz.results124, go_sem, g3, g4]) rfl
    ⟨rfl, below_store (bnext hT.below hb1) (by omega) _ _⟩

set_option maxRecDepth 100000 in
set_option maxHeartbeats 1000000 in
theorem divide_bad (na nb : Bool) (ao bo : Option Addr) (la ca lb cb : Nat) (x y : List Int) (w : World) (hx : RowAt w .u64 ao la ca x) (hy : RowAt w .u64 bo lb cb y) (hl : la ≤ 4294967296) (hl' : lb ≤ 4294967296) (hm : (mayB na x && mayB nb y) = false) :
    Calls Tryz.prog 102 #[.agg #[.bool na, .slice ao la ca], .agg #[.bool nb, .slice bo lb cb]] w fun e w' => e = .returned (.tuple #[.agg #[.bool false, .slice none 0 0], .agg #[.bool false, .slice none 0 0], .int .i64 10]) ∧ Below w.heap.size w w' := by
  obtain ⟨W, hT⟩ := Two4.mk' w na nb ao bo la ca lb cb
  have hsz := hT.size
  have hc : (if mayB na x && mayB nb y then 0 else 10 : Int) = 10 := by rw [hm]; rfl
  have HC : Hid _ := hc
  have hRx := hx.later hT.below
  have hRy := hy.later hT.below
  clear hc hm hx hy
  go_enter Tryz.func102, Tryz.ntmps102
  go_wp2_with (go_at_call 127; rw [← hT.eq]; refine (checkBoth_any na nb ao bo la ca lb cb x y _ hRx hRy (by omega) (by omega) 10 HC.out).mono ?_; rintro e w1 ⟨rfl, hb1⟩; obtain ⟨g5, g3, g4⟩ := hT.r.later hb1 (by omega); obtain ⟨g8, g6, g7⟩ := hT.r2.later hb1 (by omega))
  exact bodyPost_ret (v := .tuple #[.agg #[.bool false, .slice none 0 0], .agg #[.bool false, .slice none 0 0], .int .i64 10]) (by simp [results, Tryz.results102, go_sem, g3, g4, g6, g7]) rfl
    ⟨rfl, below_store (below_store (bnext hT.below hb1) (by omega) _ _) (by omega) _ _⟩

set_option maxRecDepth 100000 in
set_option maxHeartbeats 1000000 in
theorem divide_zero (na nb : Bool) (ao bo : Option Addr) (la ca cb : Nat) (a : Int) (w : World) (hx : IntAt w na ao la ca a) (hy : IntAt w nb bo 0 cb 0) (hl : la ≤ 4294967296) :
    Calls Tryz.prog 102 #[.agg #[.bool na, .slice ao la ca], .agg #[.bool nb, .slice bo 0 cb]] w fun e w' => e = .returned (.tuple #[.agg #[.bool false, .slice none 0 0], .agg #[.bool false, .slice none 0 0], .int .i64 11]) ∧ Below w.heap.size w w' := by
  obtain ⟨W, hT⟩ := Two4.mk' w na nb ao bo la ca 0 cb
  have hsz := hT.size
  have hc : (if mayB na (mag a.natAbs) && mayB nb (mag (0 : Int).natAbs) then 0 else 10 : Int) = 0 := by rw [hx.sg, hy.sg, may_int, may_int]; rfl
  have HC : Hid _ := hc
  have hRx := hx.later hT.below
  have hRy := hy.later hT.below
  clear hc hx hy
  go_enter Tryz.func102, Tryz.ntmps102
  go_wp2_with (go_at_call 127; rw [← hT.eq]; refine (checkBoth_any na nb ao bo la ca 0 cb _ _ _ hRx.row hRy.row (by omega) (by omega) 0 HC.out).mono ?_; rintro e w1 ⟨rfl, hb1⟩; obtain ⟨p0, p1⟩ := hT.a.later hb1 (by omega); obtain ⟨p2, p3⟩ := hT.b.later hb1 (by omega); obtain ⟨g5, g3, g4⟩ := hT.r.later hb1 (by omega); obtain ⟨g8, g6, g7⟩ := hT.r2.later hb1 (by omega))
  exact bodyPost_ret (v := .tuple #[.agg #[.bool false, .slice none 0 0], .agg #[.bool false, .slice none 0 0], .int .i64 11]) (by simp [results, Tryz.results102, go_sem, g3, g4, g6, g7]) rfl
    ⟨rfl, below_store (below_store (bnext hT.below hb1) (by omega) _ _) (by omega) _ _⟩

theorem may_num {na nb : Bool} {a b : Int} (hs : na = sgB a) (hu : nb = sgB b) : (if mayB na (mag a.natAbs) && mayB nb (mag b.natAbs) then 0 else 10 : Int) = 0 := by rw [hs, hu, may_int, may_int]; rfl
theorem neg_at {w : World} {neg : Bool} {ao : Option Addr} {l c : Nat} {v : Int} (h : IntAt w neg ao l c v) : IntAt w (!neg && decide (0 < l)) ao l c (-v) := by
  refine ⟨?_, by rw [Int.natAbs_neg]; exact h.row⟩
  rcases h.three with ⟨h1, rfl, h2⟩ | ⟨h1, rfl, h2⟩ | ⟨h1, rfl, h2⟩
  · simp [sgB]; omega
  · subst h1; simp [sgB, h2]
  · simp [sgB, h2]; omega

/-- an answer that is right is told so, and written over -/
def IsTrue (B : Nat) (ao : Option Addr) (w w' : World) (e : Ending) : Prop := e = .returned (.bool true) ∧ Below B w w' ∧ Stay ao w w'
end Go.Proofs.YtiiefpnkpfliiaaGreatDoor
