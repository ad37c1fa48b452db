/-
  Walks: a copy, an answer held against the page's, what is refused.
-/
import Derived.Test.YtljmbnbilmghhaaGreatDoorHI0
import Derived.Test.YtljmbnbilmghhaaGreatDoorHF
namespace Go.Proofs.YtljmbnbilmghhaaGreatDoor
open Go.RowKit
set_option linter.unusedVariables false
set_option linter.unusedSimpArgs false

theorem RowAt.cellKept {w : World} {k : IntKind} {ao : Option Addr} {len cap r j : Nat} {zs : List Int} {v : Value} (h : RowAt w k ao len cap zs) (hv : w.cell? ⟨r, j, none⟩ = some v) (hn : ∀ z, v ≠ .int k z) (x : Value) : RowAt (w.setCell ⟨r, j, none⟩ x) k ao len cap zs := by
  refine ⟨h.hlen, h.hcap, h.hnil, ?_⟩
  rcases h.hat with h0 | ⟨b, off, h1, hlt, h2⟩
  · exact Or.inl h0
  · refine Or.inr ⟨b, off, h1, by simpa [World.setCell] using hlt, fun t ht => ?_⟩
    have hc := h2 t ht
    rw [setCell_ne]
    · exact hc
    · rintro ⟨e1, e2⟩
      simp only at e1 e2
      rw [e1, e2, hv] at hc
      exact hn _ (Option.some.inj hc)
theorem eqint_same (neg : Bool) (ao bo : Option Addr) (la ca lb cb : Nat) (x : List Int) (w : World) (hx : RowAt w .u64 ao la ca x) (hy : RowAt w .u64 bo lb cb x) (hl : la ≤ 4611686018427387904) :
    Calls Tryz.prog 28 #[.agg #[.bool neg, .slice ao la ca], .agg #[.bool neg, .slice bo lb cb]] w fun e w' => e = .returned (.bool true) ∧ Below w.heap.size w w' := by
  refine (eqint_any neg neg ao bo la ca lb cb x x w hx hy hl).mono fun e w' h => ?_
  simpa using h

set_option maxRecDepth 100000 in
set_option maxHeartbeats 1000000 in
theorem copyInt_any (neg : Bool) (ao : Option Addr) (len cap : Nat) (zs : List Int) (w : World) (hr : RowAt w .u64 ao len cap zs) (hl : len ≤ 4294967296) :
    Calls Tryz.prog 62 #[.agg #[.bool neg, .slice ao len cap]] w fun e w' => ∃ ao' c', e = .returned (.agg #[.bool neg, .slice ao' len c']) ∧ RowAt w' .u64 ao' len c' zs ∧ Below w.heap.size w w' := by
  obtain ⟨W, hW⟩ : ∃ W, W = ((w.alloc (.cells #[.bool neg, .slice ao len cap] 26)).alloc (.cells #[.bool false, .slice none 0 0] 26)).alloc (.cells #[.bool neg, .slice ao len cap] 26) := ⟨_, rfl⟩
  have HW : Hid (Below w.heap.size w W ∧ W.heap.size = w.heap.size + 3 ∧ Fresh W (w.heap.size + 1) ∧ Boxed W (w.heap.size + 1 + 1) neg ao len cap ∧ (∀ j, W.frozen? ⟨w.heap.size + 1 + 1, j, none⟩ = false)) := by
    rw [hW]
    refine ⟨(((Below.refl _ _).alloc (Nat.le_refl _) _).alloc (by simp) _).alloc (by simp; omega) _, by simp, ⟨fun j => by simp [go_sem], by simp [go_sem], by simp [go_sem]⟩, ⟨by simp [go_sem], by simp [go_sem]⟩, fun j => by simp [go_sem]⟩
  have HR : Hid (RowAt W .u64 ao len cap zs) := hr.later HW.out.1
  have HL : Hid (len = zs.length) := hr.hlen
  have hsz : W.heap.size = w.heap.size + 3 := HW.out.2.1
  clear hr
  go_enter Tryz.func62, Tryz.ntmps62
  go_wp2_with (go_at_call 63; rw [← hW]; clear hW; refine (copyWords_any ao len cap zs _ HR.out hl).mono ?_; rintro e w1 ⟨v, rfl, hown, hb1⟩; obtain ⟨ao1, c1, hv, hrow⟩ := row_of_owns HL.out.symm hown; subst hv; have HO : Hid (RowAt w1 .u64 ao1 len c1 zs) := hrow; clear hown hrow; obtain ⟨g5, g3, g4⟩ := HW.out.2.2.1.later hb1 (by omega); obtain ⟨q0, q1⟩ := HW.out.2.2.2.1.later hb1 (by omega); have q2 : ∀ j, w1.frozen? ⟨w.heap.size + 1 + 1, j, none⟩ = false := (fun j => (hb1.frozen (p := ⟨w.heap.size + 1 + 1, j, none⟩) (by show w.heap.size + 1 + 1 < _; omega)).trans (HW.out.2.2.2.2 j)))
  have f1 : Fresh (w1.setCell ⟨w.heap.size + 1 + 1, 1, none⟩ (.slice ao1 len c1)) (w.heap.size + 1) := ⟨fun j => by rw [frozen_far]; exact g5 j, by rw [cell_far (by omega)]; exact g3, by rw [cell_far (by omega)]; exact g4⟩
  exact bodyPost_ret (v := .agg #[.bool neg, .slice ao1 len c1]) (by simp [results, Tryz.results62, go_sem, g3, g4]) rfl
    ⟨_, _, rfl, (HO.out.cellKept q1 (fun z h => by cases h) _).kept f1 _ _, below_store ((bnext HW.out.1 hb1).setCell (p := ⟨w.heap.size + 1 + 1, 1, none⟩) (by show _ ≤ w.heap.size + 1 + 1; omega) _) (by omega) _ _⟩

set_option maxRecDepth 100000 in
set_option maxHeartbeats 1000000 in
theorem mul_bad (na nb : Bool) (ao bo : Option Addr) (la ca lb cb : Nat) (x y : List Int) (w : World) (hx : RowAt w .u64 ao la ca x) (hy : RowAt w .u64 bo lb cb y) (hl : la ≤ 4294967296) (hl' : lb ≤ 4294967296) (hm : (mayB na x && mayB nb y) = false) :
    Calls Tryz.prog 144 #[.agg #[.bool na, .slice ao la ca], .agg #[.bool nb, .slice bo lb cb]] w fun e w' => e = .returned (.tuple #[.agg #[.bool false, .slice none 0 0], .int .i64 10]) ∧ Below w.heap.size w w' := by
  obtain ⟨W, hT⟩ := Two3.mk' w na nb ao bo la ca lb cb
  have hsz := hT.size
  have hc : (if mayB na x && mayB nb y then 0 else 10 : Int) = 10 := by rw [hm]; rfl
  have HC : Hid _ := hc
  have hRx := hx.later hT.below
  have hRy := hy.later hT.below
  clear hc hm hx hy
  go_enter Tryz.func144, Tryz.ntmps144
  go_wp2_with (go_at_call 147; rw [← hT.eq]; refine (checkBoth_any na nb ao bo la ca lb cb x y _ hRx hRy (by omega) (by omega) 10 HC.out).mono ?_; rintro e w1 ⟨rfl, hb1⟩; obtain ⟨g5, g3, g4⟩ := hT.r.later hb1 (by omega))
  exact bodyPost_ret (v := .tuple #[.agg #[.bool false, .slice none 0 0], .int .i64 10]) (by simp [results, Tryz.results144, go_sem, g3, g4]) rfl
    ⟨rfl, below_store (bnext hT.below hb1) (by omega) _ _⟩

set_option maxRecDepth 100000 in
set_option maxHeartbeats 1000000 in
theorem gcd_bad (na nb : Bool) (ao bo : Option Addr) (la ca lb cb : Nat) (x y : List Int) (w : World) (hx : RowAt w .u64 ao la ca x) (hy : RowAt w .u64 bo lb cb y) (hl : la ≤ 4294967296) (hl' : lb ≤ 4294967296) (hm : (mayB na x && mayB nb y) = false) :
    Calls Tryz.prog 142 #[.agg #[.bool na, .slice ao la ca], .agg #[.bool nb, .slice bo lb cb]] w fun e w' => e = .returned (.tuple #[.agg #[.bool false, .slice none 0 0], .int .i64 10]) ∧ Below w.heap.size w w' := by
  obtain ⟨W, hT⟩ := Two3.mk' w na nb ao bo la ca lb cb
  have hsz := hT.size
  have hc : (if mayB na x && mayB nb y then 0 else 10 : Int) = 10 := by rw [hm]; rfl
  have HC : Hid _ := hc
  have hRx := hx.later hT.below
  have hRy := hy.later hT.below
  clear hc hm hx hy
  go_enter Tryz.func142, Tryz.ntmps142
  go_wp2_with (go_at_call 147; rw [← hT.eq]; refine (checkBoth_any na nb ao bo la ca lb cb x y _ hRx hRy (by omega) (by omega) 10 HC.out).mono ?_; rintro e w1 ⟨rfl, hb1⟩; obtain ⟨g5, g3, g4⟩ := hT.r.later hb1 (by omega))
  exact bodyPost_ret (v := .tuple #[.agg #[.bool false, .slice none 0 0], .int .i64 10]) (by simp [results, Tryz.results142, go_sem, g3, g4]) rfl
    ⟨rfl, below_store (bnext hT.below hb1) (by omega) _ _⟩

set_option maxRecDepth 100000 in
set_option maxHeartbeats 1000000 in
theorem divide_bad (na nb : Bool) (ao bo : Option Addr) (la ca lb cb : Nat) (x y : List Int) (w : World) (hx : RowAt w .u64 ao la ca x) (hy : RowAt w .u64 bo lb cb y) (hl : la ≤ 4294967296) (hl' : lb ≤ 4294967296) (hm : (mayB na x && mayB nb y) = false) :
    Calls Tryz.prog 127 #[.agg #[.bool na, .slice ao la ca], .agg #[.bool nb, .slice bo lb cb]] w fun e w' => e = .returned (.tuple #[.agg #[.bool false, .slice none 0 0], .agg #[.bool false, .slice none 0 0], .int .i64 10]) ∧ Below w.heap.size w w' := by
  obtain ⟨W, hT⟩ := Two4.mk' w na nb ao bo la ca lb cb
  have hsz := hT.size
  have hc : (if mayB na x && mayB nb y then 0 else 10 : Int) = 10 := by rw [hm]; rfl
  have HC : Hid _ := hc
  have hRx := hx.later hT.below
  have hRy := hy.later hT.below
  clear hc hm hx hy
  go_enter Tryz.func127, Tryz.ntmps127
  go_wp2_with (go_at_call 147; rw [← hT.eq]; refine (checkBoth_any na nb ao bo la ca lb cb x y _ hRx hRy (by omega) (by omega) 10 HC.out).mono ?_; rintro e w1 ⟨rfl, hb1⟩; obtain ⟨g5, g3, g4⟩ := hT.r.later hb1 (by omega); obtain ⟨g8, g6, g7⟩ := hT.r2.later hb1 (by omega))
  exact bodyPost_ret (v := .tuple #[.agg #[.bool false, .slice none 0 0], .agg #[.bool false, .slice none 0 0], .int .i64 10]) (by simp [results, Tryz.results127, go_sem, g3, g4, g6, g7]) rfl
    ⟨rfl, below_store (below_store (bnext hT.below hb1) (by omega) _ _) (by omega) _ _⟩

set_option maxRecDepth 100000 in
set_option maxHeartbeats 1000000 in
theorem divide_zero (na nb : Bool) (ao bo : Option Addr) (la ca cb : Nat) (a : Int) (w : World) (hx : IntAt w na ao la ca a) (hy : IntAt w nb bo 0 cb 0) (hl : la ≤ 4294967296) :
    Calls Tryz.prog 127 #[.agg #[.bool na, .slice ao la ca], .agg #[.bool nb, .slice bo 0 cb]] w fun e w' => e = .returned (.tuple #[.agg #[.bool false, .slice none 0 0], .agg #[.bool false, .slice none 0 0], .int .i64 11]) ∧ Below w.heap.size w w' := by
  obtain ⟨W, hT⟩ := Two4.mk' w na nb ao bo la ca 0 cb
  have hsz := hT.size
  have hc : (if mayB na (mag a.natAbs) && mayB nb (mag (0 : Int).natAbs) then 0 else 10 : Int) = 0 := by rw [hx.sg, hy.sg, may_int, may_int]; rfl
  have HC : Hid _ := hc
  have hRx := hx.later hT.below
  have hRy := hy.later hT.below
  clear hc hx hy
  go_enter Tryz.func127, Tryz.ntmps127
  go_wp2_with (go_at_call 147; rw [← hT.eq]; refine (checkBoth_any na nb ao bo la ca 0 cb _ _ _ hRx.row hRy.row (by omega) (by omega) 0 HC.out).mono ?_; rintro e w1 ⟨rfl, hb1⟩; obtain ⟨p0, p1⟩ := hT.a.later hb1 (by omega); obtain ⟨p2, p3⟩ := hT.b.later hb1 (by omega); obtain ⟨g5, g3, g4⟩ := hT.r.later hb1 (by omega); obtain ⟨g8, g6, g7⟩ := hT.r2.later hb1 (by omega))
  exact bodyPost_ret (v := .tuple #[.agg #[.bool false, .slice none 0 0], .agg #[.bool false, .slice none 0 0], .int .i64 11]) (by simp [results, Tryz.results127, go_sem, g3, g4, g6, g7]) rfl
    ⟨rfl, below_store (below_store (bnext hT.below hb1) (by omega) _ _) (by omega) _ _⟩

theorem may_num {na nb : Bool} {a b : Int} (hs : na = sgB a) (hu : nb = sgB b) : (if mayB na (mag a.natAbs) && mayB nb (mag b.natAbs) then 0 else 10 : Int) = 0 := by rw [hs, hu, may_int, may_int]; rfl
theorem neg_at {w : World} {neg : Bool} {ao : Option Addr} {l c : Nat} {v : Int} (h : IntAt w neg ao l c v) : IntAt w (!neg && decide (0 < l)) ao l c (-v) := by
  refine ⟨?_, by rw [Int.natAbs_neg]; exact h.row⟩
  rcases h.three with ⟨h1, rfl, h2⟩ | ⟨h1, rfl, h2⟩ | ⟨h1, rfl, h2⟩
  · simp [sgB]; omega
  · subst h1; simp [sgB, h2]
  · simp [sgB, h2]; omega

/-- an answer that is right is told so, and written over -/
def IsTrue (B : Nat) (ao : Option Addr) (w w' : World) (e : Ending) : Prop := e = .returned (.bool true) ∧ Below B w w' ∧ Stay ao w w'
end Go.Proofs.YtljmbnbilmghhaaGreatDoor
