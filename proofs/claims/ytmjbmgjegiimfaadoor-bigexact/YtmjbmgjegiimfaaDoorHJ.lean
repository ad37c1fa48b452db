/-
  Walks: a copy, an answer held against the page's, what is refused.
-/
import Derived.Test.YtmjbmgjegiimfaaDoorHI
import Derived.Test.YtmjbmgjegiimfaaDoorHF
namespace Go.Proofs.YtmjbmgjegiimfaaDoor
open Go.RowKit
set_option linter.unusedVariables false
set_option linter.unusedSimpArgs false

theorem RowAt.cellKept {w : World} {k : IntKind} {ao : Option Addr} {len cap r j : Nat} {zs : List Int} {v : Value} (h : RowAt w k ao len cap zs) (hv : w.cell? ⟨r, j, none⟩ = some v) (hn : ∀ z, v ≠ .int k z) (x : Value) : RowAt (w.setCell ⟨r, j, none⟩ x) k ao len cap zs := by
  refine ⟨h.hlen, h.hcap, h.hnil, ?_⟩
  rcases h.hat with h0 | ⟨b, off, h1, hlt, h2⟩
  · exact Or.inl h0
  · refine Or.inr ⟨b, off, h1, by simpa [World.setCell] using hlt, fun t ht => ?_⟩
    have hc := h2 t ht
    rw [setCell_ne]
    · exact hc
    · rintro ⟨e1, e2⟩
      simp only at e1 e2
      rw [e1, e2, hv] at hc
      exact hn _ (Option.some.inj hc)
theorem eqint_same (neg : Bool) (ao bo : Option Addr) (la ca lb cb : Nat) (x : List Int) (w : World) (hx : RowAt w .u64 ao la ca x) (hy : RowAt w .u64 bo lb cb x) (hl : la ≤ 4611686018427387904) :
    Calls Tryd.prog 20 #[.agg #[.bool neg, .slice ao la ca], .agg #[.bool neg, .slice bo lb cb]] w fun e w' => e = .returned (.bool true) ∧ Below w.heap.size w w' := by
  refine (eqint_any neg neg ao bo la ca lb cb x x w hx hy hl).mono fun e w' h => ?_
  simpa using h

set_option maxRecDepth 100000 in
set_option maxHeartbeats 1000000 in
theorem copyInt_any (neg : Bool) (ao : Option Addr) (len cap : Nat) (zs : List Int) (w : World) (hr : RowAt w .u64 ao len cap zs) (hl : len ≤ 4294967296) :
    Calls Tryd.prog 6 #[.agg #[.bool neg, .slice ao len cap]] w fun e w' => ∃ ao' c', e = .returned (.agg #[.bool neg, .slice ao' len c']) ∧ RowAt w' .u64 ao' len c' zs ∧ Below w.heap.size w w' := by
  obtain ⟨W, hW⟩ : ∃ W, W = ((w.alloc (.cells #[.bool neg, .slice ao len cap] 26)).alloc (.cells #[.bool false, .slice none 0 0] 26)).alloc (.cells #[.bool neg, .slice ao len cap] 26) := ⟨_, rfl⟩
  have HW : Hid (Below w.heap.size w W ∧ W.heap.size = w.heap.size + 3 ∧ Fresh W (w.heap.size + 1) ∧ Boxed W (w.heap.size + 1 + 1) neg ao len cap ∧ (∀ j, W.frozen? ⟨w.heap.size + 1 + 1, j, none⟩ = false)) := by
    rw [hW]
    refine ⟨(((Below.refl _ _).alloc (Nat.le_refl _) _).alloc (by simp) _).alloc (by simp; omega) _, by simp, ⟨fun j => by simp [go_sem], by simp [go_sem], by simp [go_sem]⟩, ⟨by simp [go_sem], by simp [go_sem]⟩, fun j => by simp [go_sem]⟩
  have HR : Hid (RowAt W .u64 ao len cap zs) := hr.later HW.out.1
  have HL : Hid (len = zs.length) := hr.hlen
  have hsz : W.heap.size = w.heap.size + 3 := HW.out.2.1
  clear hr
  go_enter Tryd.func6, Tryd.ntmps6
  go_wp2_with (go_at_call 29; rw [← hW]; clear hW; refine (copyWords_any ao len cap zs _ HR.out hl).mono ?_; rintro e w1 ⟨v, rfl, hown, hb1⟩; obtain ⟨ao1, c1, hv, hrow⟩ := row_of_owns HL.out.symm hown; subst hv; have HO : Hid (RowAt w1 .u64 ao1 len c1 zs) := hrow; clear hown hrow; obtain ⟨g5, g3, g4⟩ := HW.out.2.2.1.later hb1 (by omega); obtain ⟨q0, q1⟩ := HW.out.2.2.2.1.later hb1 (by omega); have q2 : ∀ j, w1.frozen? ⟨w.heap.size + 1 + 1, j, none⟩ = false := (fun j => (hb1.frozen (p := ⟨w.heap.size + 1 + 1, j, none⟩) (by show w.heap.size + 1 + 1 < _; omega)).trans (HW.out.2.2.2.2 j)))
  have f1 : Fresh (w1.setCell ⟨w.heap.size + 1 + 1, 1, none⟩ (.slice ao1 len c1)) (w.heap.size + 1) := ⟨fun j => by rw [frozen_far]; exact g5 j, by rw [cell_far (by omega)]; exact g3, by rw [cell_far (by omega)]; exact g4⟩
  exact bodyPost_ret (v := .agg #[.bool neg, .slice ao1 len c1]) (by simp [results, Tryd.results6, go_sem, g3, g4]) rfl
    ⟨_, _, rfl, (HO.out.cellKept q1 (fun z h => by cases h) _).kept f1 _ _, below_store ((bnext HW.out.1 hb1).setCell (p := ⟨w.heap.size + 1 + 1, 1, none⟩) (by show _ ≤ w.heap.size + 1 + 1; omega) _) (by omega) _ _⟩

set_option maxRecDepth 100000 in
set_option maxHeartbeats 1000000 in
theorem sub_bad (na nb : Bool) (ao bo : Option Addr) (la ca lb cb : Nat) (x y : List Int) (w : World) (hx : RowAt w .u64 ao la ca x) (hy : RowAt w .u64 bo lb cb y) (hl : la ≤ 4294967296) (hl' : lb ≤ 4294967296) (hm : (mayB na x && mayB nb y) = false) :
    Calls Tryd.prog 16 #[.agg #[.bool na, .slice ao la ca], .agg #[.bool nb, .slice bo lb cb]] w fun e w' => e = .returned (.tuple #[.agg #[.bool false, .slice none 0 0], .int .i64 10]) ∧ Below w.heap.size w w' := by
  obtain ⟨W, hT⟩ := Two3.mk' w na nb ao bo la ca lb cb
  have hsz := hT.size
  have hc : (if mayB na x && mayB nb y then 0 else 10 : Int) = 10 := by rw [hm]; rfl
  have HC : Hid _ := hc
  have hRx := hx.later hT.below
  have hRy := hy.later hT.below
  clear hc hm hx hy
  go_enter Tryd.func16, Tryd.ntmps16
  go_wp2_with (go_at_call 40; rw [← hT.eq]; refine (checkBoth_any na nb ao bo la ca lb cb x y _ hRx hRy (by omega) (by omega) 10 HC.out).mono ?_; rintro e w1 ⟨rfl, hb1⟩; obtain ⟨g5, g3, g4⟩ := hT.r.later hb1 (by omega))
  exact bodyPost_ret (v := .tuple #[.agg #[.bool false, .slice none 0 0], .int .i64 10]) (by simp [results, Tryd.results16, go_sem, g3, g4]) rfl
    ⟨rfl, below_store (bnext hT.below hb1) (by omega) _ _⟩

set_option maxRecDepth 100000 in
set_option maxHeartbeats 1000000 in
theorem mul_bad (na nb : Bool) (ao bo : Option Addr) (la ca lb cb : Nat) (x y : List Int) (w : World) (hx : RowAt w .u64 ao la ca x) (hy : RowAt w .u64 bo lb cb y) (hl : la ≤ 4294967296) (hl' : lb ≤ 4294967296) (hm : (mayB na x && mayB nb y) = false) :
    Calls Tryd.prog 17 #[.agg #[.bool na, .slice ao la ca], .agg #[.bool nb, .slice bo lb cb]] w fun e w' => e = .returned (.tuple #[.agg #[.bool false, .slice none 0 0], .int .i64 10]) ∧ Below w.heap.size w w' := by
  obtain ⟨W, hT⟩ := Two3.mk' w na nb ao bo la ca lb cb
  have hsz := hT.size
  have hc : (if mayB na x && mayB nb y then 0 else 10 : Int) = 10 := by rw [hm]; rfl
  have HC : Hid _ := hc
  have hRx := hx.later hT.below
  have hRy := hy.later hT.below
  clear hc hm hx hy
  go_enter Tryd.func17, Tryd.ntmps17
  go_wp2_with (go_at_call 40; rw [← hT.eq]; refine (checkBoth_any na nb ao bo la ca lb cb x y _ hRx hRy (by omega) (by omega) 10 HC.out).mono ?_; rintro e w1 ⟨rfl, hb1⟩; obtain ⟨g5, g3, g4⟩ := hT.r.later hb1 (by omega))
  exact bodyPost_ret (v := .tuple #[.agg #[.bool false, .slice none 0 0], .int .i64 10]) (by simp [results, Tryd.results17, go_sem, g3, g4]) rfl
    ⟨rfl, below_store (bnext hT.below hb1) (by omega) _ _⟩

set_option maxRecDepth 100000 in
set_option maxHeartbeats 1000000 in
theorem gcd_bad (na nb : Bool) (ao bo : Option Addr) (la ca lb cb : Nat) (x y : List Int) (w : World) (hx : RowAt w .u64 ao la ca x) (hy : RowAt w .u64 bo lb cb y) (hl : la ≤ 4294967296) (hl' : lb ≤ 4294967296) (hm : (mayB na x && mayB nb y) = false) :
    Calls Tryd.prog 18 #[.agg #[.bool na, .slice ao la ca], .agg #[.bool nb, .slice bo lb cb]] w fun e w' => e = .returned (.tuple #[.agg #[.bool false, .slice none 0 0], .int .i64 10]) ∧ Below w.heap.size w w' := by
  obtain ⟨W, hT⟩ := Two3.mk' w na nb ao bo la ca lb cb
  have hsz := hT.size
  have hc : (if mayB na x && mayB nb y then 0 else 10 : Int) = 10 := by rw [hm]; rfl
  have HC : Hid _ := hc
  have hRx := hx.later hT.below
  have hRy := hy.later hT.below
  clear hc hm hx hy
  go_enter Tryd.func18, Tryd.ntmps18
  go_wp2_with (go_at_call 40; rw [← hT.eq]; refine (checkBoth_any na nb ao bo la ca lb cb x y _ hRx hRy (by omega) (by omega) 10 HC.out).mono ?_; rintro e w1 ⟨rfl, hb1⟩; obtain ⟨g5, g3, g4⟩ := hT.r.later hb1 (by omega))
  exact bodyPost_ret (v := .tuple #[.agg #[.bool false, .slice none 0 0], .int .i64 10]) (by simp [results, Tryd.results18, go_sem, g3, g4]) rfl
    ⟨rfl, below_store (bnext hT.below hb1) (by omega) _ _⟩

set_option maxRecDepth 100000 in
set_option maxHeartbeats 1000000 in
theorem divide_bad (na nb : Bool) (ao bo : Option Addr) (la ca lb cb : Nat) (x y : List Int) (w : World) (hx : RowAt w .u64 ao la ca x) (hy : RowAt w .u64 bo lb cb y) (hl : la ≤ 4294967296) (hl' : lb ≤ 4294967296) (hm : (mayB na x && mayB nb y) = false) :
    Calls Tryd.prog 19 #[.agg #[.bool na, .slice ao la ca], .agg #[.bool nb, .slice bo lb cb]] w fun e w' => e = .returned (.tuple #[.agg #[.bool false, .slice none 0 0], .agg #[.bool false, .slice none 0 0], .int .i64 10]) ∧ Below w.heap.size w w' := by
  obtain ⟨W, hT⟩ := Two4.mk' w na nb ao bo la ca lb cb
  have hsz := hT.size
  have hc : (if mayB na x && mayB nb y then 0 else 10 : Int) = 10 := by rw [hm]; rfl
  have HC : Hid _ := hc
  have hRx := hx.later hT.below
  have hRy := hy.later hT.below
  clear hc hm hx hy
  go_enter Tryd.func19, Tryd.ntmps19
  go_wp2_with (go_at_call 40; rw [← hT.eq]; refine (checkBoth_any na nb ao bo la ca lb cb x y _ hRx hRy (by omega) (by omega) 10 HC.out).mono ?_; rintro e w1 ⟨rfl, hb1⟩; obtain ⟨g5, g3, g4⟩ := hT.r.later hb1 (by omega); obtain ⟨g8, g6, g7⟩ := hT.r2.later hb1 (by omega))
  exact bodyPost_ret (v := .tuple #[.agg #[.bool false, .slice none 0 0], .agg #[.bool false, .slice none 0 0], .int .i64 10]) (by simp [results, Tryd.results19, go_sem, g3, g4, g6, g7]) rfl
    ⟨rfl, below_store (below_store (bnext hT.below hb1) (by omega) _ _) (by omega) _ _⟩

set_option maxRecDepth 100000 in
set_option maxHeartbeats 1000000 in
theorem divide_zero (na nb : Bool) (ao bo : Option Addr) (la ca cb : Nat) (a : Int) (w : World) (hx : IntAt w na ao la ca a) (hy : IntAt w nb bo 0 cb 0) (hl : la ≤ 4294967296) :
    Calls Tryd.prog 19 #[.agg #[.bool na, .slice ao la ca], .agg #[.bool nb, .slice bo 0 cb]] w fun e w' => e = .returned (.tuple #[.agg #[.bool false, .slice none 0 0], .agg #[.bool false, .slice none 0 0], .int .i64 11]) ∧ Below w.heap.size w w' := by
  obtain ⟨W, hT⟩ := Two4.mk' w na nb ao bo la ca 0 cb
  have hsz := hT.size
  have hc : (if mayB na (mag a.natAbs) && mayB nb (mag (0 : Int).natAbs) then 0 else 10 : Int) = 0 := by rw [hx.sg, hy.sg, may_int, may_int]; rfl
  have HC : Hid _ := hc
  have hRx := hx.later hT.below
  have hRy := hy.later hT.below
  clear hc hx hy
  go_enter Tryd.func19, Tryd.ntmps19
  go_wp2_with (go_at_call 40; rw [← hT.eq]; refine (checkBoth_any na nb ao bo la ca 0 cb _ _ _ hRx.row hRy.row (by omega) (by omega) 0 HC.out).mono ?_; rintro e w1 ⟨rfl, hb1⟩; obtain ⟨p0, p1⟩ := hT.a.later hb1 (by omega); obtain ⟨p2, p3⟩ := hT.b.later hb1 (by omega); obtain ⟨g5, g3, g4⟩ := hT.r.later hb1 (by omega); obtain ⟨g8, g6, g7⟩ := hT.r2.later hb1 (by omega))
  exact bodyPost_ret (v := .tuple #[.agg #[.bool false, .slice none 0 0], .agg #[.bool false, .slice none 0 0], .int .i64 11]) (by simp [results, Tryd.results19, go_sem, g3, g4, g6, g7]) rfl
    ⟨rfl, below_store (below_store (bnext hT.below hb1) (by omega) _ _) (by omega) _ _⟩

theorem may_num {na nb : Bool} {a b : Int} (hs : na = sgB a) (hu : nb = sgB b) : (if mayB na (mag a.natAbs) && mayB nb (mag b.natAbs) then 0 else 10 : Int) = 0 := by rw [hs, hu, may_int, may_int]; rfl
theorem neg_at {w : World} {neg : Bool} {ao : Option Addr} {l c : Nat} {v : Int} (h : IntAt w neg ao l c v) : IntAt w (!neg && decide (0 < l)) ao l c (-v) := by
  refine ⟨?_, by rw [Int.natAbs_neg]; exact h.row⟩
  rcases h.three with ⟨h1, rfl, h2⟩ | ⟨h1, rfl, h2⟩ | ⟨h1, rfl, h2⟩
  · simp [sgB]; omega
  · subst h1; simp [sgB, h2]
  · simp [sgB, h2]; omega

set_option maxRecDepth 100000 in
set_option maxHeartbeats 1000000 in
theorem sub_any (na nb : Bool) (ao bo : Option Addr) (la ca lb cb : Nat) (a b : Int) (w : World) (hx : IntAt w na ao la ca a) (hy : IntAt w nb bo lb cb b) (hl : la ≤ 4294967296) (hl' : lb ≤ 4294967296) :
    Calls Tryd.prog 16 #[.agg #[.bool na, .slice ao la ca], .agg #[.bool nb, .slice bo lb cb]] w fun e w' => NewIntErr w w' e (a - b) := by
  obtain ⟨W, hT⟩ := Two3.mk' w na nb ao bo la ca lb cb
  have hsz := hT.size
  have HC : Hid _ := may_num hx.sg hy.sg
  have hRx := hx.later hT.below
  have hRy := hy.later hT.below
  have HNB : Hid (IntAt W (!nb && decide (0 < lb)) bo lb cb (-b)) := neg_at hRy
  clear hx hy
  have KS : Hid (∀ w' : World, Below (w.heap.size + 2) W w' → (Below (w.heap.size + 2) W w' ∧ w'.cell? ⟨w.heap.size, 0, none⟩ = some (.bool na) ∧ w'.cell? ⟨w.heap.size, 1, none⟩ = some (.slice ao la ca) ∧ w'.cell? ⟨w.heap.size + 1, 0, none⟩ = some (.bool nb) ∧ w'.cell? ⟨w.heap.size + 1, 1, none⟩ = some (.slice bo lb cb))) := fun w' h => ⟨h, (h.cell (p := ⟨w.heap.size, 0, none⟩) (by show w.heap.size < _; omega)).trans hT.a.1, (h.cell (p := ⟨w.heap.size, 1, none⟩) (by show w.heap.size < _; omega)).trans hT.a.2, (h.cell (p := ⟨w.heap.size + 1, 0, none⟩) (by show w.heap.size + 1 < _; omega)).trans hT.b.1, (h.cell (p := ⟨w.heap.size + 1, 1, none⟩) (by show w.heap.size + 1 < _; omega)).trans hT.b.2⟩
  have K1 : Hid (∀ w1 w2 : World, (Below (w.heap.size + 2) W w1 ∧ w1.cell? ⟨w.heap.size, 0, none⟩ = some (.bool na) ∧ w1.cell? ⟨w.heap.size, 1, none⟩ = some (.slice ao la ca) ∧ w1.cell? ⟨w.heap.size + 1, 0, none⟩ = some (.bool nb) ∧ w1.cell? ⟨w.heap.size + 1, 1, none⟩ = some (.slice bo lb cb)) → Below w1.heap.size w1 w2 → (Below (w.heap.size + 2) W w2 ∧ w2.cell? ⟨w.heap.size, 0, none⟩ = some (.bool na) ∧ w2.cell? ⟨w.heap.size, 1, none⟩ = some (.slice ao la ca) ∧ w2.cell? ⟨w.heap.size + 1, 0, none⟩ = some (.bool nb) ∧ w2.cell? ⟨w.heap.size + 1, 1, none⟩ = some (.slice bo lb cb))) := fun w1 w2 h hb => KS.out _ (h.1.trans (hb.mono (by have := h.1.size; omega)))
  have K2 : Hid (∀ w1 w2 : World, (Below (w.heap.size + 2) W w1 ∧ w1.cell? ⟨w.heap.size, 0, none⟩ = some (.bool na) ∧ w1.cell? ⟨w.heap.size, 1, none⟩ = some (.slice ao la ca) ∧ w1.cell? ⟨w.heap.size + 1, 0, none⟩ = some (.bool nb) ∧ w1.cell? ⟨w.heap.size + 1, 1, none⟩ = some (.slice bo lb cb)) → Below (w.heap.size + 2) w1 w2 → (Below (w.heap.size + 2) W w2 ∧ w2.cell? ⟨w.heap.size, 0, none⟩ = some (.bool na) ∧ w2.cell? ⟨w.heap.size, 1, none⟩ = some (.slice ao la ca) ∧ w2.cell? ⟨w.heap.size + 1, 0, none⟩ = some (.bool nb) ∧ w2.cell? ⟨w.heap.size + 1, 1, none⟩ = some (.slice bo lb cb))) := fun w1 w2 h hb => KS.out _ (h.1.trans hb)
  go_enter Tryd.func16, Tryd.ntmps16
  go_wp2_with (go_at_call 40; rw [← hT.eq]; refine (checkBoth_any na nb ao bo la ca lb cb _ _ _ hRx.row hRy.row (by omega) (by omega) 0 HC.out).mono ?_; rintro e w1 ⟨rfl, hb1⟩; have hs1 := hb1.size)
  have hbX : Below (w.heap.size + 2) W w1 := hb1.mono (by omega)
  go_region_held3 (fun w' => Below (w.heap.size + 2) W w' ∧ w'.cell? ⟨w.heap.size, 0, none⟩ = some (.bool na) ∧ w'.cell? ⟨w.heap.size, 1, none⟩ = some (.slice ao la ca) ∧ w'.cell? ⟨w.heap.size + 1, 0, none⟩ = some (.bool nb) ∧ w'.cell? ⟨w.heap.size + 1, 1, none⟩ = some (.slice bo lb cb))
    (first
      | exact KS.out _ hbX.drew
      | exact K1.out _ _ (by assumption) (by assumption)
      | exact K2.out _ _ (by assumption) (below_store (Below.refl _ _) (by omega) _ _))
    (first
      | (go_at_call 43; refine (signed_any (!nb) bo lb cb _ (by omega)).mono ?_; rintro e w2 ⟨rfl, hb2⟩)
      | (go_at_call 41; refine (sum_any na (!nb && decide (0 < lb)) ao bo la ca lb cb a (-b) _ (hRx.later (bnext hb1.drew hb2)) (HNB.out.later (bnext hb1.drew hb2)) hl hl').mono ?_; rintro e w3 ⟨n2, ao2, l2, c2, rfl, hsg2, ho2, hb3⟩; have HS : Hid (n2 = sgB (a - b)) := (by rw [Int.sub_eq_add_neg]; exact hsg2); clear hsg2; have hs2 := hb2.size; obtain ⟨g5, g3, g4⟩ := hT.r.later (bnext (bnext hb1.drew hb2) hb3) (by omega)))
  go_wp2
  have hs2' : w1.heap.size ≤ w2.heap.size := hs2
  exact bodyPost_ret (v := .tuple #[.agg #[.bool n2, .slice ao2 l2 c2], .int .i64 0]) (by simp [results, Tryd.results16, go_sem, g3, g4]) rfl
    ⟨_, _, _, _, rfl, HS.out, by rw [Int.sub_eq_add_neg]; exact (ho2.store (by omega) _ _).mono (by omega), below_store (bnext hT.below (bnext (bnext hb1.drew hb2) hb3)) (by omega) _ _⟩

/-- an answer that is right is told so, and written over -/
def IsTrue (B : Nat) (ao : Option Addr) (w w' : World) (e : Ending) : Prop := e = .returned (.bool true) ∧ Below B w w' ∧ Stay ao w w'
set_option maxRecDepth 100000 in
set_option maxHeartbeats 1000000 in
theorem is_good (B : Nat) (n1 n2 : Bool) (ao1 ao2 : Option Addr) (l1 c1 l2 c2 : Nat) (v : Int) (w : World) (hs : n1 = sgB v) (ho : Own B w .u64 64 ao1 l1 c1 (mag v.natAbs)) (hB : B ≤ w.heap.size) (hy : IntAt w n2 ao2 l2 c2 v) (hl : l1 ≤ 4294967296) :
    Calls Tryd.prog 15 #[.agg #[.bool n1, .slice ao1 l1 c1], .int .i64 0, .int .i64 0, .agg #[.bool n2, .slice ao2 l2 c2]] w fun e w' => IsTrue B ao1 w w' e := by
  obtain ⟨W, hW⟩ : ∃ W, W = (w.alloc (.cells #[.bool n1, .slice ao1 l1 c1] 26)).alloc (.cells #[.bool n2, .slice ao2 l2 c2] 26) := ⟨_, rfl⟩
  have HW : Hid (Below w.heap.size w W ∧ W.heap.size = w.heap.size + 2 ∧ Boxed W w.heap.size n1 ao1 l1 c1 ∧ Boxed W (w.heap.size + 1) n2 ao2 l2 c2) := by
    rw [hW]
    exact ⟨((Below.refl _ _).alloc (Nat.le_refl _) _).alloc (by simp) _, by simp, ⟨by simp [go_sem], by simp [go_sem]⟩, ⟨by simp [go_sem], by simp [go_sem]⟩⟩
  have HO : Hid (IntAt W n1 ao1 l1 c1 v ∧ IntAt W n2 ao2 l2 c2 v ∧ Own B W .u64 64 ao1 l1 c1 (mag v.natAbs)) := ⟨(ho.later HW.out.1).int hs, hy.later HW.out.1, ho.later HW.out.1⟩
  have hsz : W.heap.size = w.heap.size + 2 := HW.out.2.1
  clear hs ho hy
  go_enter Tryd.func15, Tryd.ntmps15
  go_wp2_with (first
    | (go_at_call 26; rw [← hW]; clear hW; refine (num_any 0 _).mono ?_; rintro e w1 ⟨rfl, hw1⟩; replace hw1 := hw1.symm; subst hw1; obtain ⟨⟨p0, p1⟩, p2, p3⟩ := HW.out.2.2)
    | (go_at_call 20; refine (eqint_at n1 n2 ao1 ao2 l1 c1 l2 c2 v v _ HO.out.1 HO.out.2.1 (by omega) true (decide_eq_true rfl)).mono ?_; rintro e w2 ⟨rfl, hb2⟩; clear p0 p1 p2 p3; obtain ⟨p0, p1⟩ := HW.out.2.2.1.later hb2 (by omega))
    | (go_at_call 42; refine (spoil_any B n1 ao1 l1 c1 (mag v.natAbs) _ (HO.out.2.2.later hb2) (by have := hb2.size; omega) (by omega)).mono ?_; rintro e w3 ⟨rfl, hb3, hsy⟩))
  go_ret
  exact ⟨rfl, (below_less (bnext HW.out.1 hb2) hB).trans hb3, Stay.after (bnext HW.out.1 hb2) hsy⟩

set_option maxRecDepth 100000 in
set_option maxHeartbeats 1000000 in
theorem is_bad (n2 : Bool) (ao2 : Option Addr) (l2 c2 : Nat) (c : Int) (w : World) (hc : c ≠ 0) :
    Calls Tryd.prog 15 #[.agg #[.bool false, .slice none 0 0], .int .i64 c, .int .i64 c, .agg #[.bool n2, .slice ao2 l2 c2]] w fun e w' => IsTrue w.heap.size none w w' e := by
  obtain ⟨W, hW⟩ : ∃ W, W = (w.alloc (.cells #[.bool false, .slice none 0 0] 26)).alloc (.cells #[.bool n2, .slice ao2 l2 c2] 26) := ⟨_, rfl⟩
  have HW : Hid (Below w.heap.size w W ∧ W.heap.size = w.heap.size + 2 ∧ Boxed W w.heap.size false none 0 0) := by
    rw [hW]
    exact ⟨((Below.refl _ _).alloc (Nat.le_refl _) _).alloc (by simp) _, by simp, ⟨by simp [go_sem], by simp [go_sem]⟩⟩
  have hc' : ¬ c = 0 := hc
  clear hc
  go_enter Tryd.func15, Tryd.ntmps15
  go_wp2_with (first
    | (go_at_call 26; rw [← hW]; clear hW; refine (num_any c _).mono ?_; rintro e w1 ⟨rfl, hw1⟩; replace hw1 := hw1.symm; subst hw1; obtain ⟨p0, p1⟩ := HW.out.2.2)
    | (go_at_call 20; refine (eqint_same false none none 0 0 0 0 [] _ (RowAt.nilRow _ _) (RowAt.nilRow _ _) (by omega)).mono ?_; rintro e w2 ⟨rfl, hb2⟩))
  go_ret
  exact ⟨rfl, bnext HW.out.1 hb2, (Stay.refl _ _).next (bnext HW.out.1 hb2)⟩
end Go.Proofs.YtmjbmgjegiimfaaDoor
