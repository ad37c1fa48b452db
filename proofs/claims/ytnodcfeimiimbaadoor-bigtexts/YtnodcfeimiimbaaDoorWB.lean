/-
  Walks: checkBoth, Add; wakes.
-/
import Derived.Test.YtnodcfeimiimbaaDoorWA
namespace Go.Proofs.YtnodcfeimiimbaaDoor
open Go.RowKit
set_option linter.unusedVariables false
set_option linter.unusedSimpArgs false

theorem may_int (v : Int) : mayB (sgB v) (mag v.natAbs) = true := by
  by_cases h : mag v.natAbs = []
  · rw [h, mayB_nil]
    have := (limbs_eq_nil (q := 18446744073709551616) (by decide)).1 h
    have : ¬ v < 0 := by omega
    simp [sgB, this]
  · obtain ⟨r, z, e⟩ := snoc_of h
    have hc := mag_can v.natAbs
    rw [e] at hc ⊢
    have := can_snoc.1 hc
    simp [mayB, this]
/-- what is a number has a value -/
theorem int_of_may {w : World} {neg : Bool} {ao : Option Addr} {len cap : Nat} {zs : List Int} (hr : RowAt w .u64 ao len cap zs) (hW : Wd 18446744073709551616 zs) (hm : mayB neg zs = true) : ∃ v, IntAt w neg ao len cap v ∧ zs = mag v.natAbs := by
  have hc : Can zs := by
    by_cases h : zs = []
    · subst h; exact Can.nil
    · obtain ⟨r, z, e⟩ := snoc_of h
      subst e; exact can_snoc.2 (by simpa [mayB] using hm)
  have h0 := val_nonneg (q := 18446744073709551616) (by decide) hW
  have e : mag (val 18446744073709551616 zs).toNat = zs := mag_of hW hc (by omega)
  refine ⟨sgn neg (val 18446744073709551616 zs).toNat, ⟨?_, ?_⟩, ?_⟩
  · rw [sgB_sgn, e]
    by_cases h : zs = []
    · subst h; rw [mayB_nil] at hm; simp at hm; simp [hm]
    · have : 0 < zs.length := List.length_pos_iff.2 h
      simp [this]
  · rw [natAbs_sgn, e]; exact hr
  · rw [natAbs_sgn, e]

theorem check_at (neg : Bool) (ao : Option Addr) (len cap : Nat) (zs : List Int) (w : World) (hr : RowAt w .u64 ao len cap zs) (hl : len ≤ 4611686018427387904) (c : Int) (hc : (if mayB neg zs then 0 else 10 : Int) = c) :
    Calls Tryd.prog 14 #[.agg #[.bool neg, .slice ao len cap]] w fun e w' => e = .returned (.int .i64 c) ∧ Below w.heap.size w w' := by
  refine (check_any neg ao len cap zs w hr hl).mono fun e w' h => ?_
  rw [hc] at h; exact h

set_option maxRecDepth 100000 in
set_option maxHeartbeats 400000 in
theorem checkBoth_any (na nb : Bool) (ao bo : Option Addr) (la ca lb cb : Nat) (x y : List Int) (w : World) (hx : RowAt w .u64 ao la ca x) (hy : RowAt w .u64 bo lb cb y) (hl : la ≤ 4611686018427387904) (hl' : lb ≤ 4611686018427387904) (c : Int) (hc : (if mayB na x && mayB nb y then 0 else 10 : Int) = c) :
    Calls Tryd.prog 39 #[.agg #[.bool na, .slice ao la ca], .agg #[.bool nb, .slice bo lb cb]] w fun e w' => e = .returned (.int .i64 c) ∧ Below w.heap.size w w' := by
  obtain ⟨W0, hW0⟩ : ∃ W0, W0 = (w.alloc (.cells #[.bool na, .slice ao la ca] 30)).alloc (.cells #[.bool nb, .slice bo lb cb] 30) := ⟨_, rfl⟩
  have hbW : Below w.heap.size w W0 := by subst hW0; exact ((Below.refl _ _).alloc (Nat.le_refl _) _).alloc (by simp) _
  have hsz : W0.heap.size = w.heap.size + 2 := by subst hW0; simp
  have k0 : W0.cell? ⟨w.heap.size + 1, 0, none⟩ = some (.bool nb) := by subst hW0; simp [go_sem]
  have k1 : W0.cell? ⟨w.heap.size + 1, 1, none⟩ = some (.slice bo lb cb) := by subst hW0; simp [go_sem]
  have HK : Hid (W0.cell? ⟨w.heap.size + 1, 0, none⟩ = some (.bool nb) ∧ W0.cell? ⟨w.heap.size + 1, 1, none⟩ = some (.slice bo lb cb)) := ⟨k0, k1⟩
  have HR : Hid (RowAt W0 .u64 ao la ca x ∧ RowAt W0 .u64 bo lb cb y) := ⟨hx.later hbW, hy.later hbW⟩
  have HW : Hid (W0 = (w.alloc (.cells #[.bool na, .slice ao la ca] 30)).alloc (.cells #[.bool nb, .slice bo lb cb] 30)) := hW0
  clear k0 k1 hW0 hx hy
  cases hm : mayB na x
  · rw [hm] at hc
    have hc' : c = 10 := by simpa using hc.symm
    have HM : Hid ((if mayB na x then 0 else 10 : Int) = 10) := by show _ = _; rw [hm]; rfl
    subst hc'
    clear hc hm
    go_enter Tryd.func39, Tryd.ntmps39
    go_wp2_with (go_at_call 14; rw [← HW.out]; refine (check_at na ao la ca x _ HR.out.1 hl 10 HM.out).mono ?_; rintro e w1 ⟨rfl, hb1⟩)
    go_ret
    exact ⟨rfl, bnext hbW hb1⟩
  · have HM : Hid ((if mayB na x then 0 else 10 : Int) = 0 ∧ (if mayB nb y then 0 else 10 : Int) = c) := by
      refine ⟨by rw [hm]; rfl, ?_⟩
      rw [hm] at hc; simpa using hc
    clear hc hm
    go_enter Tryd.func39, Tryd.ntmps39
    go_wp2_with (first
      | (go_at_call_of 14 ao; rw [← HW.out]; refine (check_at na ao la ca x _ HR.out.1 hl 0 HM.out.1).mono ?_; rintro e w1 ⟨rfl, hb1⟩; have g0 : w1.cell? ⟨w.heap.size + 1, 0, none⟩ = some (.bool nb) := (hb1.cell (p := ⟨w.heap.size + 1, 0, none⟩) (by (show w.heap.size + 1 < _; omega))).trans HK.out.1; have g1 : w1.cell? ⟨w.heap.size + 1, 1, none⟩ = some (.slice bo lb cb) := (hb1.cell (p := ⟨w.heap.size + 1, 1, none⟩) (by (show w.heap.size + 1 < _; omega))).trans HK.out.2)
      | (go_at_call 14; refine (check_at nb bo lb cb y _ (HR.out.2.later hb1) hl' c HM.out.2).mono ?_; rintro e w2 ⟨rfl, hb2⟩))
    go_ret
    exact ⟨rfl, bnext hbW (bnext hb1 hb2)⟩

/-- a number that was handed in lies in a variable of its own -/
def Boxed (W : World) (r : Nat) (neg : Bool) (ao : Option Addr) (l c : Nat) : Prop := W.cell? ⟨r, 0, none⟩ = some (.bool neg) ∧ W.cell? ⟨r, 1, none⟩ = some (.slice ao l c)
theorem Boxed.later {W w2 : World} {r : Nat} {neg : Bool} {ao : Option Addr} {l c : Nat} (k : Boxed W r neg ao l c) (h : Below W.heap.size W w2) (hr : r < W.heap.size) : Boxed w2 r neg ao l c :=
  ⟨(h.cell (p := ⟨r, 0, none⟩) hr).trans k.1, (h.cell (p := ⟨r, 1, none⟩) hr).trans k.2⟩
/-- two numbers handed in, a result to come -/
structure Two3 (w W : World) (na nb : Bool) (ao bo : Option Addr) (la ca lb cb : Nat) : Prop where
  eq : W = ((w.alloc (.cells #[.bool na, .slice ao la ca] 30)).alloc (.cells #[.bool nb, .slice bo lb cb] 30)).alloc (.cells #[.bool false, .slice none 0 0] 30)
  below : Below w.heap.size w W
  size : W.heap.size = w.heap.size + 3
  a : Boxed W w.heap.size na ao la ca
  b : Boxed W (w.heap.size + 1) nb bo lb cb
  r : Fresh W (w.heap.size + 1 + 1)
theorem Two3.mk' (w : World) (na nb : Bool) (ao bo : Option Addr) (la ca lb cb : Nat) : ∃ W, Two3 w W na nb ao bo la ca lb cb := by
  refine ⟨_, rfl, (((Below.refl _ _).alloc (Nat.le_refl _) _).alloc (by simp) _).alloc (by simp; omega) _, by simp, ⟨by simp [go_sem], by simp [go_sem]⟩, ⟨by simp [go_sem], by simp [go_sem]⟩, ?_⟩
  have := Fresh.new ((w.alloc (.cells #[.bool na, .slice ao la ca] 30)).alloc (.cells #[.bool nb, .slice bo lb cb] 30))
  simpa using this

set_option maxRecDepth 100000 in
set_option maxHeartbeats 1000000 in
theorem add_bad (na nb : Bool) (ao bo : Option Addr) (la ca lb cb : Nat) (x y : List Int) (w : World) (hx : RowAt w .u64 ao la ca x) (hy : RowAt w .u64 bo lb cb y) (hl : la ≤ 4294967296) (hl' : lb ≤ 4294967296) (hm : (mayB na x && mayB nb y) = false) :
    Calls Tryd.prog 23 #[.agg #[.bool na, .slice ao la ca], .agg #[.bool nb, .slice bo lb cb]] w fun e w' => e = .returned (.tuple #[.agg #[.bool false, .slice none 0 0], .int .i64 10]) ∧ Below w.heap.size w w' := by
  obtain ⟨W, hT⟩ := Two3.mk' w na nb ao bo la ca lb cb
  have hsz := hT.size
  have hc : (if mayB na x && mayB nb y then 0 else 10 : Int) = 10 := by rw [hm]; rfl
  have HC : Hid _ := hc
  have hRx := hx.later hT.below
  have hRy := hy.later hT.below
  clear hc hm hx hy
  go_enter Tryd.func23, Tryd.ntmps23
  go_wp2_with (go_at_call 39; rw [← hT.eq]; refine (checkBoth_any na nb ao bo la ca lb cb x y _ hRx hRy (by omega) (by omega) 10 HC.out).mono ?_; rintro e w1 ⟨rfl, hb1⟩; obtain ⟨g5, g3, g4⟩ := hT.r.later hb1 (by omega))
  exact bodyPost_ret (v := .tuple #[.agg #[.bool false, .slice none 0 0], .int .i64 10]) (by simp [results, Tryd.results23, go_sem, g3, g4]) rfl
    ⟨rfl, below_store (bnext hT.below hb1) (by omega) _ _⟩

set_option maxRecDepth 100000 in
set_option maxHeartbeats 1000000 in
theorem add_any (na nb : Bool) (ao bo : Option Addr) (la ca lb cb : Nat) (a b : Int) (w : World) (hx : IntAt w na ao la ca a) (hy : IntAt w nb bo lb cb b) (hl : la ≤ 4294967296) (hl' : lb ≤ 4294967296) :
    Calls Tryd.prog 23 #[.agg #[.bool na, .slice ao la ca], .agg #[.bool nb, .slice bo lb cb]] w fun e w' => NewIntErr w w' e (a + b) := by
  obtain ⟨W, hT⟩ := Two3.mk' w na nb ao bo la ca lb cb
  have hsz := hT.size
  have hc : (if mayB na (mag a.natAbs) && mayB nb (mag b.natAbs) then 0 else 10 : Int) = 0 := by rw [hx.sg, hy.sg, may_int, may_int]; rfl
  have HC : Hid _ := hc
  have hRx := hx.later hT.below
  have hRy := hy.later hT.below
  clear hc hx hy
  go_enter Tryd.func23, Tryd.ntmps23
  go_wp2_with (first
    | (go_at_call 39; rw [← hT.eq]; refine (checkBoth_any na nb ao bo la ca lb cb _ _ _ hRx.row hRy.row (by omega) (by omega) 0 HC.out).mono ?_; rintro e w1 ⟨rfl, hb1⟩; obtain ⟨p0, p1⟩ := hT.a.later hb1 (by omega); obtain ⟨p2, p3⟩ := hT.b.later hb1 (by omega))
    | (go_at_call 40; refine (sum_any na nb ao bo la ca lb cb a b _ (hRx.later hb1) (hRy.later hb1) hl hl').mono ?_; rintro e w2 ⟨n2, ao2, l2, c2, rfl, hsg2, ho2, hb2⟩; have HS : Hid (n2 = sgB (a + b)) := hsg2; clear hsg2; have hs1 := hb1.size; obtain ⟨g5, g3, g4⟩ := hT.r.later (bnext hb1 hb2) (by omega)))
  exact bodyPost_ret (v := .tuple #[.agg #[.bool n2, .slice ao2 l2 c2], .int .i64 0]) (by simp [results, Tryd.results23, go_sem, g3, g4]) rfl
    ⟨_, _, _, _, rfl, HS.out, (ho2.store (by omega) _ _).mono (by omega), below_store (bnext hT.below (bnext hb1 hb2)) (by omega) _ _⟩

end Go.Proofs.YtnodcfeimiimbaaDoor
