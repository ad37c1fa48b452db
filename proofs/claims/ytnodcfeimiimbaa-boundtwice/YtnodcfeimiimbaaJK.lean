/-
  Walks: what is too heavy (stage 6), equal polynomials, what wakes.
-/
import Derived.Test.YtnodcfeimiimbaaJI
namespace Go.Proofs.Ytnodcfeimiimbaa
open Go.RowKit
set_option linter.unusedVariables false
set_option linter.unusedSimpArgs false

theorem num6_any (n : Int) (w : World) : Calls Try.prog 12 #[.int .i64 n] w fun e w' => e = .returned (.int .i64 n) ∧ w' = w := by
  go_enter Try.func12, Try.ntmps12
  go_wp2
  go_ret
  exact ⟨rfl, rfl⟩

set_option maxRecDepth 100000 in
set_option maxHeartbeats 1000000 in
theorem eqpoly_same (ao bo : Option Addr) (la lb ca cb : Nat) (p : List Int) (w : World) (hx : PolyAt w ao la ca p) (hy : PolyAt w bo lb cb p) (hl : la ≤ 4611686018427387904) (hlim : Lim 4611686018427387904 p) :
    Calls Try.prog 13 #[.slice ao la ca, .slice bo lb cb] w fun e w' => e = .returned (.bool true) ∧ Below w.heap.size w w' := by
  obtain rfl : la = lb := by rw [hx.hlen, hy.hlen]
  have hcon := eqints_same ao bo la ca cb p w hx hy hl hlim
  clear hx hy hlim
  go_enter Try.func13, Try.ntmps13
  go_wp2_with (go_at_call 32; refine hcon.mono ?_; rintro e w1 ⟨rfl, hb1⟩)
  go_ret
  exact ⟨rfl, hb1⟩

set_option maxRecDepth 100000 in
set_option maxHeartbeats 1000000 in
theorem heavy6_any (po : Option Addr) (pl pc : Nat) (rs : List (Bool × List Int)) (nc : Bool) (co : Option Addr) (lc cc : Nat) (K : Int) (w : World) (hp : RawsAt w po pl pc rs) (hl : pl ≤ 9223372036854775807) (c : Bool) (hc : (heavyB 9 3 pl rs || decide (3 < (lc : Int))) = c) :
    Calls Try.prog 4 #[.agg #[.slice po pl pc, .bool nc, .slice co lc cc, .int .i64 K]] w fun e w' => e = .returned (.bool c) ∧ Below w.heap.size w w' := by
  obtain ⟨W, hW⟩ : ∃ W, W = w.alloc (.cells #[.slice po pl pc, .bool nc, .slice co lc cc, .int .i64 K] 30) := ⟨_, rfl⟩
  have HW : Hid (Below w.heap.size w W ∧ W.heap.size = w.heap.size + 1 ∧ W.cell? ⟨w.heap.size, 1, none⟩ = some (.bool nc) ∧ W.cell? ⟨w.heap.size, 2, none⟩ = some (.slice co lc cc)) := by
    rw [hW]; exact ⟨(Below.refl _ _).alloc (Nat.le_refl _) _, by simp, by simp [go_sem], by simp [go_sem]⟩
  have HP : Hid (RawsAt W po pl pc rs) := hp.later HW.out.1
  clear hp
  cases hh : heavyB 9 3 pl rs
  · rw [hh, Bool.false_or] at hc
    have HH : Hid (heavyB 9 3 pl rs = false) := hh
    have hcon2 : ∀ W', Calls Try.prog 19 #[.agg #[.bool nc, .slice co lc cc], .int .i64 3] W' fun e w' => e = .returned (.bool c) ∧ Below W'.heap.size W' w' := fun W' => (long_any nc co lc cc 3 W').mono fun e w' h => by rw [hc] at h; exact h
    clear hh hc
    go_enter Try.func4, Try.ntmps4
    go_wp2_with (first
      | (go_at_call 18; rw [← hW]; clear hW; refine (heavyPoly_any 9 3 po pl pc rs _ HP.out hl (by decide) false HH.out).mono ?_; rintro e w1 ⟨rfl, hb1⟩; obtain ⟨q0, q1⟩ : w1.cell? ⟨w.heap.size, 1, none⟩ = some (.bool nc) ∧ w1.cell? ⟨w.heap.size, 2, none⟩ = some (.slice co lc cc) := ⟨(hb1.cell (p := ⟨w.heap.size, 1, none⟩) (by have := HW.out.2.1; show w.heap.size < _; omega)).trans HW.out.2.2.1, (hb1.cell (p := ⟨w.heap.size, 2, none⟩) (by have := HW.out.2.1; show w.heap.size < _; omega)).trans HW.out.2.2.2⟩)
      | (go_at_call 19; refine (hcon2 _).mono ?_; rintro e w2 ⟨rfl, hb2⟩))
    go_ret
    exact ⟨rfl, bnext HW.out.1 (bnext hb1 hb2)⟩
  · rw [hh, Bool.true_or] at hc
    subst hc
    have HH : Hid (heavyB 9 3 pl rs = true) := hh
    clear hh
    go_enter Try.func4, Try.ntmps4
    go_wp2_with (first
      | (go_at_call 18; rw [← hW]; clear hW; refine (heavyPoly_any 9 3 po pl pc rs _ HP.out hl (by decide) true HH.out).mono ?_; rintro e w1 ⟨rfl, hb1⟩))
    go_ret
    exact ⟨rfl, bnext HW.out.1 hb1⟩

/-- three numbers, laid as a polynomial -/
theorem poly3_new {W : World} {n0 n1 n2 : Bool} {o0 o1 o2 : Option Addr} {l0 c0 l1 c1 l2 c2 : Nat} {a b c : Int} {t : TypeId} (h0 : IntAt W n0 o0 l0 c0 a) (h1 : IntAt W n1 o1 l1 c1 b) (h2 : IntAt W n2 o2 l2 c2 c) :
    PolyAt (W.alloc (.cells #[.bool n0, .slice o0 l0 c0, .bool n1, .slice o1 l1 c1, .bool n2, .slice o2 l2 c2] t)) (some ⟨W.heap.size, 0, none⟩) 3 3 [a, b, c] := by
  have hA : Below W.heap.size W (W.alloc (.cells #[.bool n0, .slice o0 l0 c0, .bool n1, .slice o1 l1 c1, .bool n2, .slice o2 l2 c2] t)) := (Below.refl _ _).alloc (Nat.le_refl _) _
  refine ⟨rfl, Nat.le_refl _, fun e => (by cases e), Or.inr ⟨W.heap.size, 0, rfl, fun t ht => ?_⟩⟩
  match t, ht with
  | 0, _ => exact ⟨n0, o0, l0, c0, ⟨by simp [go_sem], by simp [go_sem]⟩, h0.later hA⟩
  | 1, _ => exact ⟨n1, o1, l1, c1, ⟨by simp [go_sem], by simp [go_sem]⟩, h1.later hA⟩
  | 2, _ => exact ⟨n2, o2, l2, c2, ⟨by simp [go_sem], by simp [go_sem]⟩, h2.later hA⟩
theorem lim_small {v : Int} (h : v.natAbs < 18446744073709551616) : lim v ≤ 1 := mag_len_one h
theorem Lim.of3 {L : Nat} {a b c : Int} (h0 : lim a ≤ L) (h1 : lim b ≤ L) (h2 : lim c ≤ L) : Lim L [a, b, c] := fun t => by
  match t with
  | 0 => exact h0
  | 1 => exact h1
  | 2 => exact h2
  | n + 3 => rw [dig_past (by simp), lim_zero]; exact Nat.zero_le _

set_option maxRecDepth 100000 in
set_option maxHeartbeats 2000000 in
theorem wakes6_any (w : World) : Calls Try.prog 17 #[] w fun e w' => e = .returned (.bool true) ∧ Below w.heap.size w w' := by
  have HC : Hid (sh 3 [0, 0, 1] = [9, 6, 1] ∧ Lead [0, 0, 1] ∧ ShLim 1000000000 3 [0, 0, 1] ∧ Lim 4611686018427387904 [9, 6, 1]) := by
    refine ⟨by decide, fun _ => by decide, ShLim.of (L := 1) (C := 1) (N := 3) (Lim.of3 (lim_small (by decide)) (lim_small (by decide)) (lim_small (by decide))) (lim_small (by decide)) (by decide) (by decide), ?_⟩
    exact (Lim.of3 (L := 1) (lim_small (by decide)) (lim_small (by decide)) (lim_small (by decide))).mono (by decide)
  go_enter Try.func17, Try.ntmps17
  go_wp2_with (first
    | (go_at_call 7; have _t := HS; refine (rfrom_any 9 _ (by decide) (by decide)).mono ?_; rintro e y0 ⟨m0, p0, k0, d0, rfl, hs, ho, hb⟩; have HB0 : Hid (IntAt y0 m0 p0 k0 d0 9 ∧ Below w5.heap.size w5 y0) := ⟨ho.int hs, hb⟩; clear hs ho hb)
    | (go_at_call 7; have _t := HB0; refine (rfrom_any 6 _ (by decide) (by decide)).mono ?_; rintro e y1 ⟨m1, p1, k1, d1, rfl, hs, ho, hb⟩; have HB1 : Hid (IntAt y1 m1 p1 k1 d1 6 ∧ IntAt y1 m0 p0 k0 d0 9 ∧ Below w5.heap.size w5 y1) := ⟨ho.int hs, HB0.out.1.later hb, bnext HB0.out.2 hb⟩; clear hs ho hb)
    | (go_at_call 7; have _t := HB1; refine (rfrom_any 1 _ (by decide) (by decide)).mono ?_; rintro e y2 ⟨m2, p2, k2, d2, rfl, hs, ho, hb⟩; have HB2 : Hid (PolyAt (y2.alloc (.cells #[.bool m0, .slice p0 k0 d0, .bool m1, .slice p1 k1 d1, .bool m2, .slice p2 k2 d2] 28)) (some ⟨y2.heap.size, 0, none⟩) 3 3 [9, 6, 1] ∧ Below w5.heap.size w5 (y2.alloc (.cells #[.bool m0, .slice p0 k0 d0, .bool m1, .slice p1 k1 d1, .bool m2, .slice p2 k2 d2] 28))) := ⟨poly3_new (HB1.out.2.1.later hb) (HB1.out.1.later hb) (ho.int hs), below_alloc (bnext HB1.out.2.2 hb) (Nat.le_refl _)⟩; clear hs ho hb)
    | (go_at_call 7; have _t := HA2; refine (rfrom_any 3 _ (by decide) (by decide)).mono ?_; rintro e w4 ⟨n3, o3, l3, c3, rfl, hs, ho, hb⟩; have HA3 : Hid (PolyAt w4 (some ⟨w3.heap.size, 0, none⟩) 3 3 [0, 0, 1] ∧ IntAt w4 n3 o3 l3 c3 3 ∧ Below w.heap.size w w4) := ⟨HA2.out.1.later hb, ho.int hs, bnext HA2.out.2 hb⟩; clear hs ho hb)
    | (go_at_call 7; have _t := HA1; refine (rfrom_any 1 _ (by decide) (by decide)).mono ?_; rintro e w3 ⟨n2, o2, l2, c2, rfl, hs, ho, hb⟩; have HA2 : Hid (PolyAt (w3.alloc (.cells #[.bool n0, .slice o0 l0 c0, .bool n1, .slice o1 l1 c1, .bool n2, .slice o2 l2 c2] 28)) (some ⟨w3.heap.size, 0, none⟩) 3 3 [0, 0, 1] ∧ Below w.heap.size w (w3.alloc (.cells #[.bool n0, .slice o0 l0 c0, .bool n1, .slice o1 l1 c1, .bool n2, .slice o2 l2 c2] 28))) := ⟨poly3_new (HA1.out.2.1.later hb) (HA1.out.1.later hb) (ho.int hs), below_alloc (bnext HA1.out.2.2 hb) (Nat.le_refl _)⟩; clear hs ho hb)
    | (go_at_call 7; have _t := HA0; refine (rfrom_any 0 _ (by decide) (by decide)).mono ?_; rintro e w2 ⟨n1, o1, l1, c1, rfl, hs, ho, hb⟩; have HA1 : Hid (IntAt w2 n1 o1 l1 c1 0 ∧ IntAt w2 n0 o0 l0 c0 0 ∧ Below w.heap.size w w2) := ⟨ho.int hs, HA0.out.1.later hb, bnext HA0.out.2 hb⟩; clear hs ho hb)
    | (go_at_call 7; refine (rfrom_any 0 _ (by decide) (by decide)).mono ?_; rintro e w1 ⟨n0, o0, l0, c0, rfl, hs, ho, hb⟩; have HA0 : Hid (IntAt w1 n0 o0 l0 c0 0 ∧ Below w.heap.size w w1) := ⟨ho.int hs, hb⟩; clear hs ho hb)
    | (go_at_call 9; refine (bshift_ok (some ⟨w3.heap.size, 0, none⟩) 3 3 [0, 0, 1] n3 o3 l3 c3 3 w4 HA3.out.1 (by decide) HC.out.2.1 HA3.out.2.1 HC.out.2.2.1).mono ?_; rintro e w5 ⟨so, ls, rfl, hp5, hb5⟩; rw [HC.out.1] at hp5; have HS : Hid (PolyAt w5 so ls ls [9, 6, 1] ∧ Below w.heap.size w w5) := ⟨hp5, bnext HA3.out.2.2 hb5⟩; clear hp5 hb5 HA3 HA2 HA1 HA0)
    | (go_at_call 12; refine (num6_any 0 _).mono ?_; rintro e w6 ⟨rfl, hw6⟩; replace hw6 := hw6.symm; subst hw6)
    | (go_at_call 13; refine (eqpoly_same so _ ls 3 ls 3 [9, 6, 1] _ (HS.out.1.later HB2.out.2) HB2.out.1 (by have := HS.out.1.hlen; simp at this; omega) HC.out.2.2.2).mono ?_; rintro e w7 ⟨rfl, hb7⟩))
  go_ret
  exact ⟨rfl, bnext (bnext HS.out.2 HB2.out.2) hb7⟩
end Go.Proofs.Ytnodcfeimiimbaa
