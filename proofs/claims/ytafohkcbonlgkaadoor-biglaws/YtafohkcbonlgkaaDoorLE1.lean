import Derived.Test.YtafohkcbonlgkaaDoorLE0
import Derived.Deep.DeepCutAuto

/- BigLaws: the variables p and c of one round; the rounds that end early. -/
namespace Go.Proofs.YtafohkcbonlgkaaDoor
open Go.RowKit
set_option linter.unusedVariables false
set_option linter.unusedSimpArgs false

/-- a round's p and c in the world -/
structure In7 (w W : World) (na nb nc : Bool) (ao bo co : Option Addr) (la ca lb cb lc cc : Nat) (n : Int) : Prop where
  eq : W = (w.alloc (.cells #[.bool na, .slice ao la ca, .bool nb, .slice bo lb cb, .int .i64 n] 28)).alloc (.cells #[.bool nc, .slice co lc cc] 26)
  below : Below w.heap.size w W
  size : W.heap.size = w.heap.size + 2
  p : Five W w.heap.size na nb ao bo la ca lb cb n
  c : Boxed W (w.heap.size + 1) nc co lc cc
theorem In7.mk' (w : World) (na nb nc : Bool) (ao bo co : Option Addr) (la ca lb cb lc cc : Nat) (n : Int) : ∃ W, In7 w W na nb nc ao bo co la ca lb cb lc cc n := by
  obtain ⟨V, hV⟩ := In5.mk' w na nb ao bo la ca lb cb n
  have hb : Below V.heap.size V (V.alloc (.cells #[.bool nc, .slice co lc cc] 26)) := (Below.refl _ _).alloc (Nat.le_refl _) _
  refine ⟨_, by rw [← hV.eq], bnext hV.below hb, by simp [hV.size], hV.p.later hb (by have := hV.size; omega), ?_⟩
  rw [← hV.size]
  exact ⟨by simp [go_sem], by simp [go_sem]⟩

theorem floor_signs {a b q r : Int} (h : FloorOf a b q r) : cmpI r 0 = 0 ∨ (cmpI r 0 = 1 ∧ cmpI b 0 = 1) ∨ (cmpI r 0 = -1 ∧ cmpI b 0 = -1) := by
  obtain ⟨-, h1 | h1⟩ := h
  · by_cases h0 : r = 0
    · exact Or.inl (cmpI_eq h0)
    · exact Or.inr (Or.inl ⟨cmpI_gt (by omega), cmpI_gt h1.1⟩)
  · by_cases h0 : r = 0
    · exact Or.inl (cmpI_eq h0)
    · exact Or.inr (Or.inr ⟨cmpI_lt (by omega), cmpI_lt h1.1⟩)
theorem wrap_sign {a b : Int} (ha : -1 ≤ a ∧ a ≤ 1) (hb : -1 ≤ b ∧ b ≤ 1) : IntKind.i64.wrap (a * b) = a * b := by
  obtain rfl | rfl | rfl : a = -1 ∨ a = 0 ∨ a = 1 := by omega
  all_goals (obtain rfl | rfl | rfl : b = -1 ∨ b = 0 ∨ b = 1 := by omega) <;> decide
theorem cmpI_three (a b c : Int) : (cmpI a b = -1 ∧ cmpI b a = 1 ∧ cmpI (a + c) (b + c) = -1) ∨ (cmpI a b = 0 ∧ cmpI b a = 0 ∧ cmpI (a + c) (b + c) = 0) ∨ (cmpI a b = 1 ∧ cmpI b a = -1 ∧ cmpI (a + c) (b + c) = 1) := by
  rw [cmpI_shift]
  rcases Int.lt_trichotomy a b with h | h | h
  · exact Or.inl ⟨cmpI_lt h, cmpI_gt h, cmpI_lt h⟩
  · exact Or.inr (Or.inl ⟨cmpI_eq h, cmpI_eq h.symm, cmpI_eq h⟩)
  · exact Or.inr (Or.inr ⟨cmpI_gt h, cmpI_lt h, cmpI_gt h⟩)
theorem cmpI_zero_iff {a : Int} (h : cmpI a 0 = 0) : a = 0 := by
  unfold cmpI at h; split at h
  · omega
  · split at h <;> omega
theorem two_new {X y : World} {n5 n6 : Bool} {ao5 ao6 : Option Addr} {l5 c5 l6 c6 : Nat} {q r : Int} (hs5 : n5 = sgB q) (ho5 : Own X.heap.size y .u64 67 ao5 l5 c5 (mag q.natAbs)) (hs6 : n6 = sgB r) (ho6 : Own X.heap.size y .u64 67 ao6 l6 c6 (mag r.natAbs)) (hb : Below X.heap.size X y) :
    Hid (InVar ((y.alloc (.cells #[.bool n5, .slice ao5 l5 c5] 26)).alloc (.cells #[.bool n6, .slice ao6 l6 c6] 26)) y.heap.size n5 ao5 l5 c5 q ∧ InVar ((y.alloc (.cells #[.bool n5, .slice ao5 l5 c5] 26)).alloc (.cells #[.bool n6, .slice ao6 l6 c6] 26)) (y.heap.size + 1) n6 ao6 l6 c6 r ∧ Below X.heap.size X ((y.alloc (.cells #[.bool n5, .slice ao5 l5 c5] 26)).alloc (.cells #[.bool n6, .slice ao6 l6 c6] 26))) := by
  have h1 : Below y.heap.size y ((y.alloc (.cells #[.bool n5, .slice ao5 l5 c5] 26)).alloc (.cells #[.bool n6, .slice ao6 l6 c6] 26)) := below_alloc (below_alloc (Below.refl _ _) (Nat.le_refl _)) (Nat.le_refl _)
  exact ⟨⟨⟨by simp [go_sem], by simp [go_sem]⟩, (ho5.int hs5).later h1, by simp; omega⟩, ⟨⟨by simp [go_sem], by simp [go_sem]⟩, (ho6.int hs6).later h1, by simp⟩, bnext hb h1⟩
theorem floor_lens {Z y : World} {B : Nat} {na nb : Bool} {ao bo o5 o6 : Option Addr} {la ca lb cb l5 c5 l6 c6 A1 A2 : Nat} {v u q r : Int} (h : FloorOf v u q r) (hu : u ≠ 0) (h1 : Num Z na ao la ca v A1) (h2 : Num Z nb bo lb cb u A2) (ho5 : Own B y .u64 67 o5 l5 c5 (mag q.natAbs)) (ho6 : Own B y .u64 67 o6 l6 c6 (mag r.natAbs)) : l5 ≤ A1 + A2 + 1 ∧ l6 ≤ A2 := by
  have h3 := floor_small h hu
  have e1 := h1.1.row.hlen
  have e2 := h2.1.row.hlen
  have e3 := h1.2
  have e4 := h2.2
  rw [ho5.row.hlen, ho6.row.hlen]; omega
theorem gcd_lens {Z y : World} {B : Nat} {na nb : Bool} {ao bo o5 : Option Addr} {la ca lb cb l5 c5 A1 A2 : Nat} {v u : Int} (h1 : Num Z na ao la ca v A1) (h2 : Num Z nb bo lb cb u A2) (ho5 : Own B y .u64 67 o5 l5 c5 (mag ((Nat.gcd v.natAbs u.natAbs : Nat) : Int).natAbs)) : l5 ≤ A1 + A2 := by
  have h3 := gcd_len v.natAbs u.natAbs
  have e1 := h1.1.row.hlen
  have e2 := h2.1.row.hlen
  have e3 := h1.2
  have e4 := h2.2
  rw [ho5.row.hlen, Int.natAbs_natCast]; omega
/-- how far a region has come -/
structure Tok (n : Nat) : Prop where
  t : True
theorem cmpI_room (a b : Int) : -1 ≤ cmpI a b ∧ cmpI a b ≤ 1 := by
  unfold cmpI; split <;> (try split) <;> omega
theorem num_neg {B : Nat} {w x : World} {neg n1 : Bool} {ao o1 : Option Addr} {l c l1 c1 A1 : Nat} {a : Int} (hs : neg = sgB (-a)) (ho : Own B x .u64 67 ao l c (mag (-a).natAbs)) (h1 : Num w n1 o1 l1 c1 a A1) : Num x neg ao l c (-a) A1 := by
  refine ⟨ho.int hs, ?_⟩
  have e1 := h1.1.row.hlen
  have e3 := h1.2
  rw [ho.row.hlen, Int.natAbs_neg]; omega
theorem num_abs {B : Nat} {w x : World} {neg n1 : Bool} {ao o1 : Option Addr} {l c l1 c1 A1 : Nat} {a : Int} (hs : neg = sgB (a.natAbs : Int)) (ho : Own B x .u64 67 ao l c (mag (a.natAbs : Int).natAbs)) (h1 : Num w n1 o1 l1 c1 a A1) : Num x neg ao l c (a.natAbs : Int) A1 := by
  refine ⟨ho.int hs, ?_⟩
  have e1 := h1.1.row.hlen
  have e3 := h1.2
  rw [ho.row.hlen, Int.natAbs_natCast]; omega

/-- five cells that lie somewhere in a block -/
def Five9 (w : World) (b o : Nat) (na nb : Bool) (ao bo : Option Addr) (la ca lb cb : Nat) (n : Int) : Prop :=
  w.cell? ⟨b, o, none⟩ = some (.bool na) ∧ w.cell? ⟨b, o + 1, none⟩ = some (.slice ao la ca) ∧ w.cell? ⟨b, o + 2, none⟩ = some (.bool nb) ∧ w.cell? ⟨b, o + 3, none⟩ = some (.slice bo lb cb) ∧ w.cell? ⟨b, o + 4, none⟩ = some (.int .i64 n)
theorem Five9.later {w w' : World} {b o : Nat} {na nb : Bool} {ao bo : Option Addr} {la ca lb cb : Nat} {n : Int} (h : Five9 w b o na nb ao bo la ca lb cb n) (hb : Below w.heap.size w w') (hlt : b < w.heap.size) : Five9 w' b o na nb ao bo la ca lb cb n :=
  ⟨(hb.cell (p := ⟨b, o, none⟩) hlt).trans h.1, (hb.cell (p := ⟨b, o + 1, none⟩) hlt).trans h.2.1, (hb.cell (p := ⟨b, o + 2, none⟩) hlt).trans h.2.2.1, (hb.cell (p := ⟨b, o + 3, none⟩) hlt).trans h.2.2.2.1, (hb.cell (p := ⟨b, o + 4, none⟩) hlt).trans h.2.2.2.2⟩

set_option maxRecDepth 100000 in
set_option maxHeartbeats 40000000 in
theorem bigLaws_any (lo : Option Addr) (len cap : Nat) (w : World) (hE : ElemsAt w lo len) (hl : len ≤ 9223372036854775807) (hT0 : TabAt 0 Lib.deBruijn64tab w) :
    Calls Tryd.prog 5 #[.slice lo len cap] w fun e w' => e = .returned (.bool true) ∧ Below w.heap.size w w' := by
  have HTB : Hid (TabAt 0 Lib.deBruijn64tab w) := hT0
  clear hT0
  go_enter Tryd.func5, Tryd.ntmps5
  go_wp2
  go_loopw [3] (fun i wr => ∃ k : Nat, k ≤ len ∧ k ≤ 40 ∧ i = .int .i64 k ∧ Below w.heap.size w wr) (fun i _ => 40 - (intOf i).toNat)
  case atStart => exact ⟨0, Nat.zero_le _, by omega, rfl, Below.refl _ _⟩
  case round =>
    obtain ⟨k, hk, hk40, rfl, hbel⟩ := hrel
    by_cases hlt : k + 1 < len ∧ k < 40
    · obtain ⟨hlt, hlt40⟩ := hlt
      obtain ⟨b, off, rfl, hbw, hel⟩ := hE k (by omega)
      obtain ⟨b', off', heb, hbw', hel2⟩ := hE (k + 1) hlt
      cases heb
      obtain ⟨na, nb, ao, bo, la, ca, lb, cb, N, x, y, ⟨h0, h1, h2, h3, h4⟩, hx, wx, hy, wy, hn1, hn2⟩ := hel.later hbel hbw
      have hbr : b < wr.heap.size := Nat.lt_of_lt_of_le hbw hbel.size
      have hel3 := hel2.later hbel hbw
      obtain ⟨nc, nd, co, do', lc, cc, ld, cd, M, z, t, ⟨j0, j1, j2, j3, j4⟩, hz, wz, ht, wt, hm1, hm2⟩ := hel2.later hbel hbw
      obtain ⟨W, hT⟩ := In7.mk' wr na nb nc ao bo co la ca lb cb lc cc N
      have hsz := hT.size
      have hbW : Below w.heap.size w W := bnext hbel hT.below
      have hwW := hbW.size
      have HX : Hid (RowAt W .u64 ao la ca x ∧ Wd 18446744073709551616 x ∧ RowAt W .u64 bo lb cb y ∧ Wd 18446744073709551616 y ∧ RowAt W .u64 co lc cc z ∧ Wd 18446744073709551616 z) := ⟨hx.later hT.below, wx, hy.later hT.below, wy, hz.later hT.below, wz⟩
      clear hx hy wx wy hz wz ht wt
      cases hhv : (decide (30 < (la : Int)) || decide (30 < (lb : Int)))
      · have HH : Hid ((decide (30 < (la : Int)) || decide (30 < (lb : Int))) = false) := hhv
        have hla : la ≤ 30 := by simp at hhv; omega
        have hlb : lb ≤ 30 := by simp at hhv; omega
        clear hhv
        have HJ : Hid (Five9 wr b (off + (k + 1) * 5) nc nd co do' lc cc ld cd M) := ⟨j0, j1, j2, j3, j4⟩
        cases hhw : (decide (30 < (lc : Int)) || decide (30 < (ld : Int)))
        · have HH2 : Hid ((decide (30 < (lc : Int)) || decide (30 < (ld : Int))) = false) := hhw
          have hlc : lc ≤ 30 := by simp at hhw; omega
          clear hhw
          cases hm : mayB na x
          · as_aux_lemma =>
            have HM : Hid (mayB na x = false) := hm
            clear hm
            go_wp2_with (first
                | (go_at_call 29; have _t := hB2; refine (check_at na ao la ca x _ (HX.out.1.later hB2) (by omega) 10 (by rw [HM.out]; rfl)).mono ?_; rintro e w3 ⟨rfl, hb3⟩; have hB3 : Below W.heap.size W w3 := bnext hB2 hb3)
                | (go_at_call 6; have _t := hb1; refine (heavy_any nc nd co do' lc cc ld cd M _ false HH2.out).mono ?_; rintro e w2 ⟨rfl, hb2⟩; have hB2 : Below W.heap.size W w2 := bnext hb1 hb2; clear j0 j1 j2 j3 j4; clear q0 q1 q2 q3 q4; obtain ⟨q0, q1, q2, q3, q4⟩ := hT.p.later hB2 (by omega))
                | (go_at_call 6; rw [← hT.eq]; refine (heavy_any na nb ao bo la ca lb cb N _ false HH.out).mono ?_; rintro e w1 ⟨rfl, hb1⟩; obtain ⟨q0, q1, q2, q3, q4⟩ := hT.p.later hb1 (by omega); clear h0 h1 h2 h3 h4 j0 j1 j2 j3 j4; obtain ⟨j0, j1, j2, j3, j4⟩ := HJ.out.later (bnext hT.below hb1) hbr)
                | (go_at_call 27; refine (num_any _ _).mono ?_; rintro e xn ⟨rfl, hxn⟩; replace hxn := hxn.symm; subst hxn))
            go_roundw
            case rel => exact ⟨k + 1, by omega, by omega, by go_num, bnext hbW hB3⟩
            case measure => simp [intOf]; omega
          · have HM : Hid (mayB na x = true) := hm
            obtain ⟨va, hIa, hxa⟩ := int_of_may HX.out.1 HX.out.2.1 hm
            clear hm hxa
            cases hm2 : mayB nb y
            · as_aux_lemma =>
              have HM2 : Hid (mayB nb y = false) := hm2
              clear hm2 hIa
              go_wp2_with (first
                  | (go_at_call 29; have _t := hB3; refine (check_at nb bo lb cb y _ (HX.out.2.2.1.later hB3) (by omega) 10 (by rw [HM2.out]; rfl)).mono ?_; rintro e w4 ⟨rfl, hb4⟩; have hB4 : Below W.heap.size W w4 := bnext hB3 hb4)
                  | (go_at_call 29; have _t := hB2; refine (check_at na ao la ca x _ (HX.out.1.later hB2) (by omega) 0 (by rw [HM.out]; rfl)).mono ?_; rintro e w3 ⟨rfl, hb3⟩; have hB3 : Below W.heap.size W w3 := bnext hB2 hb3; clear q0 q1 q2 q3 q4; obtain ⟨q0, q1, q2, q3, q4⟩ := hT.p.later hB3 (by omega))
                  | (go_at_call 6; have _t := hb1; refine (heavy_any nc nd co do' lc cc ld cd M _ false HH2.out).mono ?_; rintro e w2 ⟨rfl, hb2⟩; have hB2 : Below W.heap.size W w2 := bnext hb1 hb2; clear j0 j1 j2 j3 j4; clear q0 q1 q2 q3 q4; obtain ⟨q0, q1, q2, q3, q4⟩ := hT.p.later hB2 (by omega))
                  | (go_at_call 6; rw [← hT.eq]; refine (heavy_any na nb ao bo la ca lb cb N _ false HH.out).mono ?_; rintro e w1 ⟨rfl, hb1⟩; obtain ⟨q0, q1, q2, q3, q4⟩ := hT.p.later hb1 (by omega); clear h0 h1 h2 h3 h4 j0 j1 j2 j3 j4; obtain ⟨j0, j1, j2, j3, j4⟩ := HJ.out.later (bnext hT.below hb1) hbr)
                  | (go_at_call 27; refine (num_any _ _).mono ?_; rintro e xn ⟨rfl, hxn⟩; replace hxn := hxn.symm; subst hxn))
              go_roundw
              case rel => exact ⟨k + 1, by omega, by omega, by go_num, bnext hbW hB4⟩
              case measure => simp [intOf]; omega
            · have HM2 : Hid (mayB nb y = true) := hm2
              obtain ⟨vb, hIb, hyb⟩ := int_of_may HX.out.2.2.1 HX.out.2.2.2.1 hm2
              clear hm2 hyb
              cases hm3 : mayB nc z
              · as_aux_lemma =>
                have HM3 : Hid (mayB nc z = false) := hm3
                clear hm3 hIa hIb
                go_wp2_with (first
                    | (go_at_call 29; have _t := hB4; refine (check_at nc co lc cc z _ (HX.out.2.2.2.2.1.later hB4) (by omega) 10 (by rw [HM3.out]; rfl)).mono ?_; rintro e w5 ⟨rfl, hb5⟩; have hB5 : Below W.heap.size W w5 := bnext hB4 hb5)
                    | (go_at_call 29; have _t := hB3; refine (check_at nb bo lb cb y _ (HX.out.2.2.1.later hB3) (by omega) 0 (by rw [HM2.out]; rfl)).mono ?_; rintro e w4 ⟨rfl, hb4⟩; have hB4 : Below W.heap.size W w4 := bnext hB3 hb4; clear q0 q1 q2 q3 q4; obtain ⟨q0, q1, q2, q3, q4⟩ := hT.p.later hB4 (by omega); obtain ⟨r0, r1⟩ := hT.c.later hB4 (by omega))
                    | (go_at_call 29; have _t := hB2; refine (check_at na ao la ca x _ (HX.out.1.later hB2) (by omega) 0 (by rw [HM.out]; rfl)).mono ?_; rintro e w3 ⟨rfl, hb3⟩; have hB3 : Below W.heap.size W w3 := bnext hB2 hb3; clear q0 q1 q2 q3 q4; obtain ⟨q0, q1, q2, q3, q4⟩ := hT.p.later hB3 (by omega))
                    | (go_at_call 6; have _t := hb1; refine (heavy_any nc nd co do' lc cc ld cd M _ false HH2.out).mono ?_; rintro e w2 ⟨rfl, hb2⟩; have hB2 : Below W.heap.size W w2 := bnext hb1 hb2; clear j0 j1 j2 j3 j4; clear q0 q1 q2 q3 q4; obtain ⟨q0, q1, q2, q3, q4⟩ := hT.p.later hB2 (by omega))
                    | (go_at_call 6; rw [← hT.eq]; refine (heavy_any na nb ao bo la ca lb cb N _ false HH.out).mono ?_; rintro e w1 ⟨rfl, hb1⟩; obtain ⟨q0, q1, q2, q3, q4⟩ := hT.p.later hb1 (by omega); clear h0 h1 h2 h3 h4 j0 j1 j2 j3 j4; obtain ⟨j0, j1, j2, j3, j4⟩ := HJ.out.later (bnext hT.below hb1) hbr)
                    | (go_at_call 27; refine (num_any _ _).mono ?_; rintro e xn ⟨rfl, hxn⟩; replace hxn := hxn.symm; subst hxn))
                go_roundw
                case rel => exact ⟨k + 1, by omega, by omega, by go_num, bnext hbW hB5⟩
                case measure => simp [intOf]; omega
              · have HM3 : Hid (mayB nc z = true) := hm3
                obtain ⟨vc, hIc, hzc⟩ := int_of_may HX.out.2.2.2.2.1 HX.out.2.2.2.2.2 hm3
                have HI : Hid (IntAt W na ao la ca va ∧ IntAt W nb bo lb cb vb ∧ IntAt W nc co lc cc vc) := ⟨hIa, hIb, hIc⟩
                clear hm3 hzc hIa hIb hIc
                go_wp2_with (first
                    | (go_at_call 29; have _t := hB4; refine (check_at nc co lc cc z _ (HX.out.2.2.2.2.1.later hB4) (by omega) 0 (by rw [HM3.out]; rfl)).mono ?_; rintro e w5 ⟨rfl, hb5⟩; have hB5 : Below W.heap.size W w5 := bnext hB4 hb5; clear q0 q1 q2 q3 q4; obtain ⟨q0, q1, q2, q3, q4⟩ := hT.p.later hB5 (by omega); clear r0 r1; have hA5 : Below w5.heap.size w5 (w5.alloc (.cells #[.bool na, .slice ao la ca] 26)) := (Below.refl _ _).alloc (Nat.le_refl _) _; obtain ⟨p0, p1, p2, p3, p4⟩ := hT.p.later (bnext hB5 hA5) (by omega))
                    | (go_at_call 29; have _t := hB3; refine (check_at nb bo lb cb y _ (HX.out.2.2.1.later hB3) (by omega) 0 (by rw [HM2.out]; rfl)).mono ?_; rintro e w4 ⟨rfl, hb4⟩; have hB4 : Below W.heap.size W w4 := bnext hB3 hb4; clear q0 q1 q2 q3 q4; obtain ⟨q0, q1, q2, q3, q4⟩ := hT.p.later hB4 (by omega); obtain ⟨r0, r1⟩ := hT.c.later hB4 (by omega))
                    | (go_at_call 29; have _t := hB2; refine (check_at na ao la ca x _ (HX.out.1.later hB2) (by omega) 0 (by rw [HM.out]; rfl)).mono ?_; rintro e w3 ⟨rfl, hb3⟩; have hB3 : Below W.heap.size W w3 := bnext hB2 hb3; clear q0 q1 q2 q3 q4; obtain ⟨q0, q1, q2, q3, q4⟩ := hT.p.later hB3 (by omega))
                    | (go_at_call 6; have _t := hb1; refine (heavy_any nc nd co do' lc cc ld cd M _ false HH2.out).mono ?_; rintro e w2 ⟨rfl, hb2⟩; have hB2 : Below W.heap.size W w2 := bnext hb1 hb2; clear j0 j1 j2 j3 j4; clear q0 q1 q2 q3 q4; obtain ⟨q0, q1, q2, q3, q4⟩ := hT.p.later hB2 (by omega))
                    | (go_at_call 6; rw [← hT.eq]; refine (heavy_any na nb ao bo la ca lb cb N _ false HH.out).mono ?_; rintro e w1 ⟨rfl, hb1⟩; obtain ⟨q0, q1, q2, q3, q4⟩ := hT.p.later hb1 (by omega); clear h0 h1 h2 h3 h4 j0 j1 j2 j3 j4; obtain ⟨j0, j1, j2, j3, j4⟩ := HJ.out.later (bnext hT.below hb1) hbr)
                    | (go_at_call 27; refine (num_any _ _).mono ?_; rintro e xn ⟨rfl, hxn⟩; replace hxn := hxn.symm; subst hxn))
                have hZ0 : InVar ((w5.alloc (.cells #[.bool na, .slice ao la ca] 26)).alloc (.cells #[.bool nb, .slice bo lb cb] 26)) w5.heap.size na ao la ca va ∧ InVar ((w5.alloc (.cells #[.bool na, .slice ao la ca] 26)).alloc (.cells #[.bool nb, .slice bo lb cb] 26)) (w5.heap.size + 1) nb bo lb cb vb ∧ InVar ((w5.alloc (.cells #[.bool na, .slice ao la ca] 26)).alloc (.cells #[.bool nb, .slice bo lb cb] 26)) (wr.heap.size + 1) nc co lc cc vc ∧ Below W.heap.size W ((w5.alloc (.cells #[.bool na, .slice ao la ca] 26)).alloc (.cells #[.bool nb, .slice bo lb cb] 26)) := by
                  have h1 : Below w5.heap.size w5 ((w5.alloc (.cells #[.bool na, .slice ao la ca] 26)).alloc (.cells #[.bool nb, .slice bo lb cb] 26)) := below_alloc (below_alloc (Below.refl _ _) (Nat.le_refl _)) (Nat.le_refl _)
                  have h2 := bnext hB5 h1
                  have h3 := h2.size
                  have h4 := h1.size
                  exact ⟨⟨⟨by simp [go_sem], by simp [go_sem]⟩, HI.out.1.later h2, by simp; omega⟩, ⟨⟨by simp [go_sem], by simp [go_sem]⟩, HI.out.2.1.later h2, by simp⟩, ⟨hT.c.later h2 (by omega), HI.out.2.2.later h2, by omega⟩, h2⟩
                revert hZ0
                generalize ((w5.alloc (.cells #[.bool na, .slice ao la ca] 26)).alloc (.cells #[.bool nb, .slice bo lb cb] 26)) = Z
                rintro ⟨ua, ub, uc, hWZ⟩
                clear q0 q1 q2 q3 q4 p0 p1 p2 p3 p4 hA5 hb1 hb2 hb3 hb4 hb5 hB2 hB3 hB4 hB5 hel hel2 hel3 hn1 hn2 hm1 hm2 HX HM HM2 HM3 HI HH HH2 HJ
                have HWZ : Hid (Below w.heap.size w Z) := bnext hbW hWZ
                clear hWZ
                have KS0 : Hid (∀ w' : World, Below Z.heap.size Z w' → (Below Z.heap.size Z w' ∧ w'.cell? ⟨w5.heap.size, 0, none⟩ = some (.bool na) ∧ w'.cell? ⟨w5.heap.size, 1, none⟩ = some (.slice ao la ca) ∧ w'.cell? ⟨(w5.heap.size + 1), 0, none⟩ = some (.bool nb) ∧ w'.cell? ⟨(w5.heap.size + 1), 1, none⟩ = some (.slice bo lb cb) ∧ w'.cell? ⟨(wr.heap.size + 1), 0, none⟩ = some (.bool nc) ∧ w'.cell? ⟨(wr.heap.size + 1), 1, none⟩ = some (.slice co lc cc))) := fun w' h => ⟨h, (ua.box.later h ua.lt).1, (ua.box.later h ua.lt).2, (ub.box.later h ub.lt).1, (ub.box.later h ub.lt).2, (uc.box.later h uc.lt).1, (uc.box.later h uc.lt).2⟩
                have HN0 : Hid (Num Z na ao la ca va 30 ∧ Num Z nb bo lb cb vb 30 ∧ Num Z nc co lc cc vc 30) := ⟨⟨ua.int, hla⟩, ⟨ub.int, hlb⟩, ⟨uc.int, hlc⟩⟩
                have HU0 : Hid (InVar Z w5.heap.size na ao la ca va ∧ InVar Z (w5.heap.size + 1) nb bo lb cb vb ∧ InVar Z (wr.heap.size + 1) nc co lc cc vc) := ⟨ua, ub, uc⟩
                clear ua ub uc
                have HQ1 : Hid (decide (va + vb = vb + va) = true) := decide_eq_true (Int.add_comm _ _)
                have HQ2 : Hid (decide ((va + vb) + vc = va + (vb + vc)) = true) := decide_eq_true (Int.add_assoc _ _ _)
                have HQ3 : Hid (decide (va * (vb + vc) = va * vb + va * vc) = true) := decide_eq_true (Int.mul_add _ _ _)
                have HQ4 : Hid (decide ((va * vb) * vc = va * (vb * vc)) = true) := decide_eq_true (Int.mul_assoc _ _ _)
                have HQ5 : Hid (cmpI (va + (-va)) 0 = 0) := cmpI_eq (by omega)
                have TK : Tok 0 := ⟨trivial⟩
                go_cut [133] (fun s133 wx => s133 = .bool false ∧ Below Z.heap.size Z wx)
                case first => as_aux_lemma =>
                  -- region11
                  go_region_held3 (fun w' => (Below Z.heap.size Z w' ∧ w'.cell? ⟨w5.heap.size, 0, none⟩ = some (.bool na) ∧ w'.cell? ⟨w5.heap.size, 1, none⟩ = some (.slice ao la ca) ∧ w'.cell? ⟨(w5.heap.size + 1), 0, none⟩ = some (.bool nb) ∧ w'.cell? ⟨(w5.heap.size + 1), 1, none⟩ = some (.slice bo lb cb) ∧ w'.cell? ⟨(wr.heap.size + 1), 0, none⟩ = some (.bool nc) ∧ w'.cell? ⟨(wr.heap.size + 1), 1, none⟩ = some (.slice co lc cc)))
                    (first
                      | exact KS0.out _ (Below.refl _ _).drew
                      | exact KS0.out _ (by assumption)
                      | assumption)
                    (first
                      | (have _t : Tok 0 := TK; go_at_call 30; refine (ladd_small na nb ao bo la ca lb cb (va) (vb) _ (HN0.out.1.later (Below.refl _ _).drew).1 (HN0.out.2.1.later (Below.refl _ _).drew).1 (by have := ((HN0.out.1.later (Below.refl _ _).drew)).2; omega) (by have := ((HN0.out.2.1.later (Below.refl _ _).drew)).2; omega)).mono ?_; rintro e rx1 ⟨rm1, rp1, rk1, rd1, rfl, hs, ho, hb⟩; have rH1 : Hid (Num rx1 rm1 rp1 rk1 rd1 (va + vb) 61) := num_add hs ho (HN0.out.1.later (Below.refl _ _).drew) (HN0.out.2.1.later (Below.refl _ _).drew); clear hs ho; have rhB1 : Below Z.heap.size Z rx1 := bnext (Below.refl _ _).drew hb; have rhs1 := hb; clear hb; clear TK; have TK : Tok 1 := ⟨trivial⟩)
                      | (have _t : Tok 1 := TK; go_at_call 30; refine (ladd_small nb na bo ao lb cb la ca (vb) (va) _ (HN0.out.2.1.later rhB1).1 (HN0.out.1.later rhB1).1 (by have := ((HN0.out.2.1.later rhB1)).2; omega) (by have := ((HN0.out.1.later rhB1)).2; omega)).mono ?_; rintro e rx2 ⟨rm2, rp2, rk2, rd2, rfl, hs, ho, hb⟩; have rH2 : Hid (Num rx2 rm2 rp2 rk2 rd2 (vb + va) 61) := num_add hs ho (HN0.out.2.1.later rhB1) (HN0.out.1.later rhB1); clear hs ho; have rhB2 : Below Z.heap.size Z rx2 := bnext rhB1 hb; have rhs2 := hb; clear hb; clear TK; have TK : Tok 2 := ⟨trivial⟩)
                      | (have _t : Tok 2 := TK; go_at_call 21; refine (eqint_at rm1 rm2 rp1 rp2 rk1 rd1 rk2 rd2 ((va + vb)) ((vb + va)) _ (rH1.out.later (rhs2)).1 rH2.out.1 (by have := ((rH1.out.later (rhs2))).2; omega) true HQ1.out).mono ?_; rintro e rx3 ⟨rfl, hb⟩; have rhB3 : Below Z.heap.size Z rx3 := bnext rhB2 hb; have rhs3 := hb; clear hb; clear TK; have TK : Tok 3 := ⟨trivial⟩)
                      | (have _t : Tok 3 := TK; go_at_call 30; refine (ladd_small na nb ao bo la ca lb cb (va) (vb) _ (HN0.out.1.later rhB3).1 (HN0.out.2.1.later rhB3).1 (by have := ((HN0.out.1.later rhB3)).2; omega) (by have := ((HN0.out.2.1.later rhB3)).2; omega)).mono ?_; rintro e rx4 ⟨rm4, rp4, rk4, rd4, rfl, hs, ho, hb⟩; have rH4 : Hid (Num rx4 rm4 rp4 rk4 rd4 (va + vb) 61) := num_add hs ho (HN0.out.1.later rhB3) (HN0.out.2.1.later rhB3); clear hs ho; have rhB4 : Below Z.heap.size Z rx4 := bnext rhB3 hb; have rhs4 := hb; clear hb; clear TK; have TK : Tok 4 := ⟨trivial⟩)
                      | (have _t : Tok 4 := TK; go_at_call 30; refine (ladd_small rm4 nc rp4 co rk4 rd4 lc cc ((va + vb)) (vc) _ rH4.out.1 (HN0.out.2.2.later rhB4).1 (by have := (rH4.out).2; omega) (by have := ((HN0.out.2.2.later rhB4)).2; omega)).mono ?_; rintro e rx5 ⟨rm5, rp5, rk5, rd5, rfl, hs, ho, hb⟩; have rH5 : Hid (Num rx5 rm5 rp5 rk5 rd5 ((va + vb) + vc) 92) := num_add hs ho rH4.out (HN0.out.2.2.later rhB4); clear hs ho; have rhB5 : Below Z.heap.size Z rx5 := bnext rhB4 hb; have rhs5 := hb; clear hb; clear TK; have TK : Tok 5 := ⟨trivial⟩)
                      | (have _t : Tok 5 := TK; go_at_call 30; refine (ladd_small nb nc bo co lb cb lc cc (vb) (vc) _ (HN0.out.2.1.later rhB5).1 (HN0.out.2.2.later rhB5).1 (by have := ((HN0.out.2.1.later rhB5)).2; omega) (by have := ((HN0.out.2.2.later rhB5)).2; omega)).mono ?_; rintro e rx6 ⟨rm6, rp6, rk6, rd6, rfl, hs, ho, hb⟩; have rH6 : Hid (Num rx6 rm6 rp6 rk6 rd6 (vb + vc) 61) := num_add hs ho (HN0.out.2.1.later rhB5) (HN0.out.2.2.later rhB5); clear hs ho; have rhB6 : Below Z.heap.size Z rx6 := bnext rhB5 hb; have rhs6 := hb; clear hb; clear TK; have TK : Tok 6 := ⟨trivial⟩)
                      | (have _t : Tok 6 := TK; go_at_call 30; refine (ladd_small na rm6 ao rp6 la ca rk6 rd6 (va) ((vb + vc)) _ (HN0.out.1.later rhB6).1 rH6.out.1 (by have := ((HN0.out.1.later rhB6)).2; omega) (by have := (rH6.out).2; omega)).mono ?_; rintro e rx7 ⟨rm7, rp7, rk7, rd7, rfl, hs, ho, hb⟩; have rH7 : Hid (Num rx7 rm7 rp7 rk7 rd7 (va + (vb + vc)) 92) := num_add hs ho (HN0.out.1.later rhB6) rH6.out; clear hs ho; have rhB7 : Below Z.heap.size Z rx7 := bnext rhB6 hb; have rhs7 := hb; clear hb; clear TK; have TK : Tok 7 := ⟨trivial⟩)
                      | (have _t : Tok 7 := TK; go_at_call 21; refine (eqint_at rm5 rm7 rp5 rp7 rk5 rd5 rk7 rd7 (((va + vb) + vc)) ((va + (vb + vc))) _ (rH5.out.later (bnext (rhs6) rhs7)).1 rH7.out.1 (by have := ((rH5.out.later (bnext (rhs6) rhs7))).2; omega) true HQ2.out).mono ?_; rintro e rx8 ⟨rfl, hb⟩; have rhB8 : Below Z.heap.size Z rx8 := bnext rhB7 hb; have rhs8 := hb; clear hb; clear TK; have TK : Tok 8 := ⟨trivial⟩)
                      | (have _t : Tok 8 := TK; go_at_call 30; refine (ladd_small nb nc bo co lb cb lc cc (vb) (vc) _ (HN0.out.2.1.later rhB8).1 (HN0.out.2.2.later rhB8).1 (by have := ((HN0.out.2.1.later rhB8)).2; omega) (by have := ((HN0.out.2.2.later rhB8)).2; omega)).mono ?_; rintro e rx9 ⟨rm9, rp9, rk9, rd9, rfl, hs, ho, hb⟩; have rH9 : Hid (Num rx9 rm9 rp9 rk9 rd9 (vb + vc) 61) := num_add hs ho (HN0.out.2.1.later rhB8) (HN0.out.2.2.later rhB8); clear hs ho; have rhB9 : Below Z.heap.size Z rx9 := bnext rhB8 hb; have rhs9 := hb; clear hb; clear TK; have TK : Tok 9 := ⟨trivial⟩)
                      | (have _t : Tok 9 := TK; go_at_call 31; refine (lmul_any na rm9 ao rp9 la ca rk9 rd9 (va) ((vb + vc)) _ (HN0.out.1.later rhB9).1 rH9.out.1 (by have := ((HN0.out.1.later rhB9)).2; omega) (by have := (rH9.out).2; omega)).mono ?_; rintro e rx10 ⟨rm10, rp10, rk10, rd10, rfl, hs, ho, hb⟩; have rH10 : Hid (Num rx10 rm10 rp10 rk10 rd10 (va * (vb + vc)) 91) := num_mul hs ho (HN0.out.1.later rhB9) rH9.out; clear hs ho; have rhB10 : Below Z.heap.size Z rx10 := bnext rhB9 hb; have rhs10 := hb; clear hb; clear TK; have TK : Tok 10 := ⟨trivial⟩)
                      | (have _t : Tok 10 := TK; go_at_call 31; refine (lmul_any na nb ao bo la ca lb cb (va) (vb) _ (HN0.out.1.later rhB10).1 (HN0.out.2.1.later rhB10).1 (by have := ((HN0.out.1.later rhB10)).2; omega) (by have := ((HN0.out.2.1.later rhB10)).2; omega)).mono ?_; rintro e rx11 ⟨rm11, rp11, rk11, rd11, rfl, hs, ho, hb⟩; have rH11 : Hid (Num rx11 rm11 rp11 rk11 rd11 (va * vb) 60) := num_mul hs ho (HN0.out.1.later rhB10) (HN0.out.2.1.later rhB10); clear hs ho; have rhB11 : Below Z.heap.size Z rx11 := bnext rhB10 hb; have rhs11 := hb; clear hb; clear TK; have TK : Tok 11 := ⟨trivial⟩)
                      | (have _t : Tok 11 := TK; go_at_call 31; refine (lmul_any na nc ao co la ca lc cc (va) (vc) _ (HN0.out.1.later rhB11).1 (HN0.out.2.2.later rhB11).1 (by have := ((HN0.out.1.later rhB11)).2; omega) (by have := ((HN0.out.2.2.later rhB11)).2; omega)).mono ?_; rintro e rx12 ⟨rm12, rp12, rk12, rd12, rfl, hs, ho, hb⟩; have rH12 : Hid (Num rx12 rm12 rp12 rk12 rd12 (va * vc) 60) := num_mul hs ho (HN0.out.1.later rhB11) (HN0.out.2.2.later rhB11); clear hs ho; have rhB12 : Below Z.heap.size Z rx12 := bnext rhB11 hb; have rhs12 := hb; clear hb; clear TK; have TK : Tok 12 := ⟨trivial⟩)
                      | (have _t : Tok 12 := TK; go_at_call 30; refine (ladd_small rm11 rm12 rp11 rp12 rk11 rd11 rk12 rd12 ((va * vb)) ((va * vc)) _ (rH11.out.later (rhs12)).1 rH12.out.1 (by have := ((rH11.out.later (rhs12))).2; omega) (by have := (rH12.out).2; omega)).mono ?_; rintro e rx13 ⟨rm13, rp13, rk13, rd13, rfl, hs, ho, hb⟩; have rH13 : Hid (Num rx13 rm13 rp13 rk13 rd13 ((va * vb) + (va * vc)) 121) := num_add hs ho (rH11.out.later (rhs12)) rH12.out; clear hs ho; have rhB13 : Below Z.heap.size Z rx13 := bnext rhB12 hb; have rhs13 := hb; clear hb; clear TK; have TK : Tok 13 := ⟨trivial⟩)
                      | (have _t : Tok 13 := TK; go_at_call 21; refine (eqint_at rm10 rm13 rp10 rp13 rk10 rd10 rk13 rd13 ((va * (vb + vc))) (((va * vb) + (va * vc))) _ (rH10.out.later (bnext (bnext (rhs11) rhs12) rhs13)).1 rH13.out.1 (by have := ((rH10.out.later (bnext (bnext (rhs11) rhs12) rhs13))).2; omega) true HQ3.out).mono ?_; rintro e rx14 ⟨rfl, hb⟩; have rhB14 : Below Z.heap.size Z rx14 := bnext rhB13 hb; have rhs14 := hb; clear hb; clear TK; have TK : Tok 14 := ⟨trivial⟩)
                      | (have _t : Tok 14 := TK; go_at_call 31; refine (lmul_any na nb ao bo la ca lb cb (va) (vb) _ (HN0.out.1.later rhB14).1 (HN0.out.2.1.later rhB14).1 (by have := ((HN0.out.1.later rhB14)).2; omega) (by have := ((HN0.out.2.1.later rhB14)).2; omega)).mono ?_; rintro e rx15 ⟨rm15, rp15, rk15, rd15, rfl, hs, ho, hb⟩; have rH15 : Hid (Num rx15 rm15 rp15 rk15 rd15 (va * vb) 60) := num_mul hs ho (HN0.out.1.later rhB14) (HN0.out.2.1.later rhB14); clear hs ho; have rhB15 : Below Z.heap.size Z rx15 := bnext rhB14 hb; have rhs15 := hb; clear hb; clear TK; have TK : Tok 15 := ⟨trivial⟩)
                      | (have _t : Tok 15 := TK; go_at_call 31; refine (lmul_any rm15 nc rp15 co rk15 rd15 lc cc ((va * vb)) (vc) _ rH15.out.1 (HN0.out.2.2.later rhB15).1 (by have := (rH15.out).2; omega) (by have := ((HN0.out.2.2.later rhB15)).2; omega)).mono ?_; rintro e rx16 ⟨rm16, rp16, rk16, rd16, rfl, hs, ho, hb⟩; have rH16 : Hid (Num rx16 rm16 rp16 rk16 rd16 ((va * vb) * vc) 90) := num_mul hs ho rH15.out (HN0.out.2.2.later rhB15); clear hs ho; have rhB16 : Below Z.heap.size Z rx16 := bnext rhB15 hb; have rhs16 := hb; clear hb; clear TK; have TK : Tok 16 := ⟨trivial⟩)
                      | (have _t : Tok 16 := TK; go_at_call 31; refine (lmul_any nb nc bo co lb cb lc cc (vb) (vc) _ (HN0.out.2.1.later rhB16).1 (HN0.out.2.2.later rhB16).1 (by have := ((HN0.out.2.1.later rhB16)).2; omega) (by have := ((HN0.out.2.2.later rhB16)).2; omega)).mono ?_; rintro e rx17 ⟨rm17, rp17, rk17, rd17, rfl, hs, ho, hb⟩; have rH17 : Hid (Num rx17 rm17 rp17 rk17 rd17 (vb * vc) 60) := num_mul hs ho (HN0.out.2.1.later rhB16) (HN0.out.2.2.later rhB16); clear hs ho; have rhB17 : Below Z.heap.size Z rx17 := bnext rhB16 hb; have rhs17 := hb; clear hb; clear TK; have TK : Tok 17 := ⟨trivial⟩)
                      | (have _t : Tok 17 := TK; go_at_call 31; refine (lmul_any na rm17 ao rp17 la ca rk17 rd17 (va) ((vb * vc)) _ (HN0.out.1.later rhB17).1 rH17.out.1 (by have := ((HN0.out.1.later rhB17)).2; omega) (by have := (rH17.out).2; omega)).mono ?_; rintro e rx18 ⟨rm18, rp18, rk18, rd18, rfl, hs, ho, hb⟩; have rH18 : Hid (Num rx18 rm18 rp18 rk18 rd18 (va * (vb * vc)) 90) := num_mul hs ho (HN0.out.1.later rhB17) rH17.out; clear hs ho; have rhB18 : Below Z.heap.size Z rx18 := bnext rhB17 hb; have rhs18 := hb; clear hb; clear TK; have TK : Tok 18 := ⟨trivial⟩)
                      | (have _t : Tok 18 := TK; go_at_call 21; refine (eqint_at rm16 rm18 rp16 rp18 rk16 rd16 rk18 rd18 (((va * vb) * vc)) ((va * (vb * vc))) _ (rH16.out.later (bnext (rhs17) rhs18)).1 rH18.out.1 (by have := ((rH16.out.later (bnext (rhs17) rhs18))).2; omega) true HQ4.out).mono ?_; rintro e rx19 ⟨rfl, hb⟩; have rhB19 : Below Z.heap.size Z rx19 := bnext rhB18 hb; have rhs19 := hb; clear hb; clear TK; have TK : Tok 19 := ⟨trivial⟩)
                      | (have _t : Tok 19 := TK; go_at_call 33; refine (bneg_any na ao la ca (va) _ (HN0.out.1.later rhB19).1 (by have := ((HN0.out.1.later rhB19)).2; omega)).mono ?_; rintro e rx20 ⟨rm20, rp20, rk20, rd20, rfl, hs, ho, hb⟩; have rH20 : Hid (Num rx20 rm20 rp20 rk20 rd20 (-va) 30) := num_neg hs ho HN0.out.1; clear hs ho; have rhB20 : Below Z.heap.size Z rx20 := bnext rhB19 hb; have rhs20 := hb; clear hb; clear TK; have TK : Tok 20 := ⟨trivial⟩)
                      | (have _t : Tok 20 := TK; go_at_call 30; refine (ladd_small na rm20 ao rp20 la ca rk20 rd20 (va) ((-va)) _ (HN0.out.1.later rhB20).1 rH20.out.1 (by have := ((HN0.out.1.later rhB20)).2; omega) (by have := (rH20.out).2; omega)).mono ?_; rintro e rx21 ⟨rm21, rp21, rk21, rd21, rfl, hs, ho, hb⟩; have rH21 : Hid (Num rx21 rm21 rp21 rk21 rd21 (va + (-va)) 61) := num_add hs ho (HN0.out.1.later rhB20) rH20.out; clear hs ho; have rhB21 : Below Z.heap.size Z rx21 := bnext rhB20 hb; have rhs21 := hb; clear hb; clear TK; have TK : Tok 21 := ⟨trivial⟩)
                      | (have _t : Tok 21 := TK; go_at_call 32; refine (bsign_any rm21 rp21 rk21 rd21 ((va + (-va))) _ rH21.out.1 (by have := (rH21.out).2; omega) 0 HQ5.out).mono ?_; rintro e rx22 ⟨rfl, hb⟩; have rhB22 : Below Z.heap.size Z rx22 := bnext rhB21 hb; have rhs22 := hb; clear hb; clear TK; have TK : Tok 22 := ⟨trivial⟩))
                  go_wp2
                  go_meet
                  exact ⟨rfl, rhB22⟩
                case rest => as_aux_lemma =>
                  -- rest
                  obtain ⟨rfl, hbZ⟩ := hcut
                  obtain ⟨Z1, hZ1⟩ : ∃ Z1, Z1 = wc := ⟨_, rfl⟩
                  subst hZ1
                  have ua := HU0.out.1.later hbZ
                  have ub := HU0.out.2.1.later hbZ
                  have uc := HU0.out.2.2.later hbZ
                  have HW1 : Hid (Below w.heap.size w Z1) := bnext HWZ.out hbZ
                  clear hbZ KS0 HN0 HU0 HWZ HQ1 HQ2 HQ3 HQ4 HQ5
                  have KS1 : Hid (∀ w' : World, Below Z1.heap.size Z1 w' → (Below Z1.heap.size Z1 w' ∧ w'.cell? ⟨w5.heap.size, 0, none⟩ = some (.bool na) ∧ w'.cell? ⟨w5.heap.size, 1, none⟩ = some (.slice ao la ca) ∧ w'.cell? ⟨(w5.heap.size + 1), 0, none⟩ = some (.bool nb) ∧ w'.cell? ⟨(w5.heap.size + 1), 1, none⟩ = some (.slice bo lb cb) ∧ w'.cell? ⟨(wr.heap.size + 1), 0, none⟩ = some (.bool nc) ∧ w'.cell? ⟨(wr.heap.size + 1), 1, none⟩ = some (.slice co lc cc))) := fun w' h => ⟨h, (ua.box.later h ua.lt).1, (ua.box.later h ua.lt).2, (ub.box.later h ub.lt).1, (ub.box.later h ub.lt).2, (uc.box.later h uc.lt).1, (uc.box.later h uc.lt).2⟩
                  have HN1 : Hid (Num Z1 na ao la ca va 30 ∧ Num Z1 nb bo lb cb vb 30 ∧ Num Z1 nc co lc cc vc 30) := ⟨⟨ua.int, hla⟩, ⟨ub.int, hlb⟩, ⟨uc.int, hlc⟩⟩
                  have HU1 : Hid (InVar Z1 w5.heap.size na ao la ca va ∧ InVar Z1 (w5.heap.size + 1) nb bo lb cb vb ∧ InVar Z1 (wr.heap.size + 1) nc co lc cc vc) := ⟨ua, ub, uc⟩
                  clear ua ub uc
                  obtain ⟨sa, hsa⟩ : ∃ c, cmpI va 0 = c := ⟨_, rfl⟩
                  obtain ⟨sb, hsb⟩ : ∃ c, cmpI vb 0 = c := ⟨_, rfl⟩
                  have hsab : cmpI (va * vb) 0 = sa * sb := by rw [← hsa, ← hsb, cmpI_mul]
                  have hb3 := cmpI_room va 0; have hb4 := cmpI_room vb 0; have hb5 := cmpI_room (va * vb) 0
                  rw [hsa] at hb3; rw [hsb] at hb4; rw [hsab] at hb5
                  have HBD : Hid ((-1 ≤ sa ∧ sa ≤ 1) ∧ (-1 ≤ sb ∧ sb ≤ 1) ∧ (-1 ≤ sa * sb ∧ sa * sb ≤ 1)) := ⟨hb3, hb4, hb5⟩
                  clear hb3 hb4 hb5
                  have HS1 : Hid (cmpI va 0 = sa) := hsa
                  have HS2 : Hid (cmpI vb 0 = sb) := hsb
                  have HS3 : Hid (cmpI (va * vb) 0 = sa * sb) := hsab
                  clear hsa hsb hsab
                  have TK : Tok 0 := ⟨trivial⟩
                  go_wp2
                  go_cut [166] (fun s166 wx => s166 = .bool false ∧ Below Z1.heap.size Z1 wx)
                  case first =>
                    rcases cmpI_three va vb vc with ⟨hc1, hc2, hc3⟩ | ⟨hc1, hc2, hc3⟩ | ⟨hc1, hc2, hc3⟩
                    · as_aux_lemma =>
                      -- region13
                      have HC1 : Hid (cmpI va vb = (-1)) := hc1
                      have HC2 : Hid (cmpI vb va = 1) := hc2
                      have HC3 : Hid (cmpI (va + vc) (vb + vc) = (-1)) := hc3
                      clear hc1 hc2 hc3
                      have hwr : IntKind.i64.wrap (-1) = (-1) := by decide
                      have hwr2 : IntKind.i64.wrap ((-1)) = (-1) := by decide
                      go_region_held3 (fun w' => (Below Z1.heap.size Z1 w' ∧ w'.cell? ⟨w5.heap.size, 0, none⟩ = some (.bool na) ∧ w'.cell? ⟨w5.heap.size, 1, none⟩ = some (.slice ao la ca) ∧ w'.cell? ⟨(w5.heap.size + 1), 0, none⟩ = some (.bool nb) ∧ w'.cell? ⟨(w5.heap.size + 1), 1, none⟩ = some (.slice bo lb cb) ∧ w'.cell? ⟨(wr.heap.size + 1), 0, none⟩ = some (.bool nc) ∧ w'.cell? ⟨(wr.heap.size + 1), 1, none⟩ = some (.slice co lc cc)))
                        (first
                          | exact KS1.out _ (Below.refl _ _).drew
                          | exact KS1.out _ (by assumption)
                          | assumption)
                        (first
                          | (have _t : Tok 0 := TK; go_at_call 34; refine (bcmp_any na nb ao bo la ca lb cb (va) (vb) _ (HN1.out.1.later (Below.refl _ _).drew).1 (HN1.out.2.1.later (Below.refl _ _).drew).1 (by have := ((HN1.out.1.later (Below.refl _ _).drew)).2; omega) (by have := ((HN1.out.2.1.later (Below.refl _ _).drew)).2; omega) (-1) HC1.out).mono ?_; rintro e rx1 ⟨rfl, hb⟩; have rhB1 : Below Z1.heap.size Z1 rx1 := bnext (Below.refl _ _).drew hb; have rhs1 := hb; clear hb; clear TK; have TK : Tok 1 := ⟨trivial⟩)
                          | (have _t : Tok 1 := TK; go_at_call 34; refine (bcmp_any nb na bo ao lb cb la ca (vb) (va) _ (HN1.out.2.1.later rhB1).1 (HN1.out.1.later rhB1).1 (by have := ((HN1.out.2.1.later rhB1)).2; omega) (by have := ((HN1.out.1.later rhB1)).2; omega) 1 HC2.out).mono ?_; rintro e rx2 ⟨rfl, hb⟩; have rhB2 : Below Z1.heap.size Z1 rx2 := bnext rhB1 hb; have rhs2 := hb; clear hb; clear TK; have TK : Tok 2 := ⟨trivial⟩)
                          | (have _t : Tok 2 := TK; go_at_call 34; refine (bcmp_any na nb ao bo la ca lb cb (va) (vb) _ (HN1.out.1.later rhB2).1 (HN1.out.2.1.later rhB2).1 (by have := ((HN1.out.1.later rhB2)).2; omega) (by have := ((HN1.out.2.1.later rhB2)).2; omega) (-1) HC1.out).mono ?_; rintro e rx3 ⟨rfl, hb⟩; have rhB3 : Below Z1.heap.size Z1 rx3 := bnext rhB2 hb; have rhs3 := hb; clear hb; clear TK; have TK : Tok 3 := ⟨trivial⟩)
                          | (have _t : Tok 3 := TK; go_at_call 30; refine (ladd_small na nc ao co la ca lc cc (va) (vc) _ (HN1.out.1.later rhB3).1 (HN1.out.2.2.later rhB3).1 (by have := ((HN1.out.1.later rhB3)).2; omega) (by have := ((HN1.out.2.2.later rhB3)).2; omega)).mono ?_; rintro e rx4 ⟨rm4, rp4, rk4, rd4, rfl, hs, ho, hb⟩; have rH4 : Hid (Num rx4 rm4 rp4 rk4 rd4 (va + vc) 61) := num_add hs ho (HN1.out.1.later rhB3) (HN1.out.2.2.later rhB3); clear hs ho; have rhB4 : Below Z1.heap.size Z1 rx4 := bnext rhB3 hb; have rhs4 := hb; clear hb; clear TK; have TK : Tok 4 := ⟨trivial⟩)
                          | (have _t : Tok 4 := TK; go_at_call 30; refine (ladd_small nb nc bo co lb cb lc cc (vb) (vc) _ (HN1.out.2.1.later rhB4).1 (HN1.out.2.2.later rhB4).1 (by have := ((HN1.out.2.1.later rhB4)).2; omega) (by have := ((HN1.out.2.2.later rhB4)).2; omega)).mono ?_; rintro e rx5 ⟨rm5, rp5, rk5, rd5, rfl, hs, ho, hb⟩; have rH5 : Hid (Num rx5 rm5 rp5 rk5 rd5 (vb + vc) 61) := num_add hs ho (HN1.out.2.1.later rhB4) (HN1.out.2.2.later rhB4); clear hs ho; have rhB5 : Below Z1.heap.size Z1 rx5 := bnext rhB4 hb; have rhs5 := hb; clear hb; clear TK; have TK : Tok 5 := ⟨trivial⟩)
                          | (have _t : Tok 5 := TK; go_at_call 34; refine (bcmp_any rm4 rm5 rp4 rp5 rk4 rd4 rk5 rd5 ((va + vc)) ((vb + vc)) _ (rH4.out.later (rhs5)).1 rH5.out.1 (by have := ((rH4.out.later (rhs5))).2; omega) (by have := (rH5.out).2; omega) (-1) HC3.out).mono ?_; rintro e rx6 ⟨rfl, hb⟩; have rhB6 : Below Z1.heap.size Z1 rx6 := bnext rhB5 hb; have rhs6 := hb; clear hb; clear TK; have TK : Tok 6 := ⟨trivial⟩)
                          | (have _t : Tok 6 := TK; go_at_call 31; refine (lmul_any na nb ao bo la ca lb cb (va) (vb) _ (HN1.out.1.later rhB6).1 (HN1.out.2.1.later rhB6).1 (by have := ((HN1.out.1.later rhB6)).2; omega) (by have := ((HN1.out.2.1.later rhB6)).2; omega)).mono ?_; rintro e rx7 ⟨rm7, rp7, rk7, rd7, rfl, hs, ho, hb⟩; have rH7 : Hid (Num rx7 rm7 rp7 rk7 rd7 (va * vb) 60) := num_mul hs ho (HN1.out.1.later rhB6) (HN1.out.2.1.later rhB6); clear hs ho; have rhB7 : Below Z1.heap.size Z1 rx7 := bnext rhB6 hb; have rhs7 := hb; clear hb; clear TK; have TK : Tok 7 := ⟨trivial⟩)
                          | (have _t : Tok 7 := TK; go_at_call 32; refine (bsign_any rm7 rp7 rk7 rd7 ((va * vb)) _ rH7.out.1 (by have := (rH7.out).2; omega) (sa * sb) HS3.out).mono ?_; rintro e rx8 ⟨rfl, hb⟩; have rhB8 : Below Z1.heap.size Z1 rx8 := bnext rhB7 hb; have rhs8 := hb; clear hb; clear TK; have TK : Tok 8 := ⟨trivial⟩)
                          | (have _t : Tok 8 := TK; go_at_call 32; refine (bsign_any na ao la ca (va) _ (HN1.out.1.later rhB8).1 (by have := ((HN1.out.1.later rhB8)).2; omega) sa HS1.out).mono ?_; rintro e rx9 ⟨rfl, hb⟩; have rhB9 : Below Z1.heap.size Z1 rx9 := bnext rhB8 hb; have rhs9 := hb; clear hb; clear TK; have TK : Tok 9 := ⟨trivial⟩)
                          | (have _t : Tok 9 := TK; go_at_call 32; refine (bsign_any nb bo lb cb (vb) _ (HN1.out.2.1.later rhB9).1 (by have := ((HN1.out.2.1.later rhB9)).2; omega) sb HS2.out).mono ?_; rintro e rx10 ⟨rfl, hb⟩; have rhB10 : Below Z1.heap.size Z1 rx10 := bnext rhB9 hb; have rhs10 := hb; clear hb; clear TK; have TK : Tok 10 := ⟨trivial⟩; obtain ⟨⟨_, _⟩, ⟨_, _⟩, ⟨_, _⟩⟩ := HBD.out))
                      go_wp2
                      go_meet
                      exact ⟨by simp [wrap_sign HBD.out.1 HBD.out.2.1], rhB10⟩
                    · as_aux_lemma =>
                      -- region13
                      have HC1 : Hid (cmpI va vb = 0) := hc1
                      have HC2 : Hid (cmpI vb va = 0) := hc2
                      have HC3 : Hid (cmpI (va + vc) (vb + vc) = 0) := hc3
                      clear hc1 hc2 hc3
                      have hwr : IntKind.i64.wrap (-0) = 0 := by decide
                      have hwr2 : IntKind.i64.wrap (0) = 0 := by decide
                      go_region_held3 (fun w' => (Below Z1.heap.size Z1 w' ∧ w'.cell? ⟨w5.heap.size, 0, none⟩ = some (.bool na) ∧ w'.cell? ⟨w5.heap.size, 1, none⟩ = some (.slice ao la ca) ∧ w'.cell? ⟨(w5.heap.size + 1), 0, none⟩ = some (.bool nb) ∧ w'.cell? ⟨(w5.heap.size + 1), 1, none⟩ = some (.slice bo lb cb) ∧ w'.cell? ⟨(wr.heap.size + 1), 0, none⟩ = some (.bool nc) ∧ w'.cell? ⟨(wr.heap.size + 1), 1, none⟩ = some (.slice co lc cc)))
                        (first
                          | exact KS1.out _ (Below.refl _ _).drew
                          | exact KS1.out _ (by assumption)
                          | assumption)
                        (first
                          | (have _t : Tok 0 := TK; go_at_call 34; refine (bcmp_any na nb ao bo la ca lb cb (va) (vb) _ (HN1.out.1.later (Below.refl _ _).drew).1 (HN1.out.2.1.later (Below.refl _ _).drew).1 (by have := ((HN1.out.1.later (Below.refl _ _).drew)).2; omega) (by have := ((HN1.out.2.1.later (Below.refl _ _).drew)).2; omega) 0 HC1.out).mono ?_; rintro e rx1 ⟨rfl, hb⟩; have rhB1 : Below Z1.heap.size Z1 rx1 := bnext (Below.refl _ _).drew hb; have rhs1 := hb; clear hb; clear TK; have TK : Tok 1 := ⟨trivial⟩)
                          | (have _t : Tok 1 := TK; go_at_call 34; refine (bcmp_any nb na bo ao lb cb la ca (vb) (va) _ (HN1.out.2.1.later rhB1).1 (HN1.out.1.later rhB1).1 (by have := ((HN1.out.2.1.later rhB1)).2; omega) (by have := ((HN1.out.1.later rhB1)).2; omega) 0 HC2.out).mono ?_; rintro e rx2 ⟨rfl, hb⟩; have rhB2 : Below Z1.heap.size Z1 rx2 := bnext rhB1 hb; have rhs2 := hb; clear hb; clear TK; have TK : Tok 2 := ⟨trivial⟩)
                          | (have _t : Tok 2 := TK; go_at_call 34; refine (bcmp_any na nb ao bo la ca lb cb (va) (vb) _ (HN1.out.1.later rhB2).1 (HN1.out.2.1.later rhB2).1 (by have := ((HN1.out.1.later rhB2)).2; omega) (by have := ((HN1.out.2.1.later rhB2)).2; omega) 0 HC1.out).mono ?_; rintro e rx3 ⟨rfl, hb⟩; have rhB3 : Below Z1.heap.size Z1 rx3 := bnext rhB2 hb; have rhs3 := hb; clear hb; clear TK; have TK : Tok 3 := ⟨trivial⟩)
                          | (have _t : Tok 3 := TK; go_at_call 30; refine (ladd_small na nc ao co la ca lc cc (va) (vc) _ (HN1.out.1.later rhB3).1 (HN1.out.2.2.later rhB3).1 (by have := ((HN1.out.1.later rhB3)).2; omega) (by have := ((HN1.out.2.2.later rhB3)).2; omega)).mono ?_; rintro e rx4 ⟨rm4, rp4, rk4, rd4, rfl, hs, ho, hb⟩; have rH4 : Hid (Num rx4 rm4 rp4 rk4 rd4 (va + vc) 61) := num_add hs ho (HN1.out.1.later rhB3) (HN1.out.2.2.later rhB3); clear hs ho; have rhB4 : Below Z1.heap.size Z1 rx4 := bnext rhB3 hb; have rhs4 := hb; clear hb; clear TK; have TK : Tok 4 := ⟨trivial⟩)
                          | (have _t : Tok 4 := TK; go_at_call 30; refine (ladd_small nb nc bo co lb cb lc cc (vb) (vc) _ (HN1.out.2.1.later rhB4).1 (HN1.out.2.2.later rhB4).1 (by have := ((HN1.out.2.1.later rhB4)).2; omega) (by have := ((HN1.out.2.2.later rhB4)).2; omega)).mono ?_; rintro e rx5 ⟨rm5, rp5, rk5, rd5, rfl, hs, ho, hb⟩; have rH5 : Hid (Num rx5 rm5 rp5 rk5 rd5 (vb + vc) 61) := num_add hs ho (HN1.out.2.1.later rhB4) (HN1.out.2.2.later rhB4); clear hs ho; have rhB5 : Below Z1.heap.size Z1 rx5 := bnext rhB4 hb; have rhs5 := hb; clear hb; clear TK; have TK : Tok 5 := ⟨trivial⟩)
                          | (have _t : Tok 5 := TK; go_at_call 34; refine (bcmp_any rm4 rm5 rp4 rp5 rk4 rd4 rk5 rd5 ((va + vc)) ((vb + vc)) _ (rH4.out.later (rhs5)).1 rH5.out.1 (by have := ((rH4.out.later (rhs5))).2; omega) (by have := (rH5.out).2; omega) 0 HC3.out).mono ?_; rintro e rx6 ⟨rfl, hb⟩; have rhB6 : Below Z1.heap.size Z1 rx6 := bnext rhB5 hb; have rhs6 := hb; clear hb; clear TK; have TK : Tok 6 := ⟨trivial⟩)
                          | (have _t : Tok 6 := TK; go_at_call 31; refine (lmul_any na nb ao bo la ca lb cb (va) (vb) _ (HN1.out.1.later rhB6).1 (HN1.out.2.1.later rhB6).1 (by have := ((HN1.out.1.later rhB6)).2; omega) (by have := ((HN1.out.2.1.later rhB6)).2; omega)).mono ?_; rintro e rx7 ⟨rm7, rp7, rk7, rd7, rfl, hs, ho, hb⟩; have rH7 : Hid (Num rx7 rm7 rp7 rk7 rd7 (va * vb) 60) := num_mul hs ho (HN1.out.1.later rhB6) (HN1.out.2.1.later rhB6); clear hs ho; have rhB7 : Below Z1.heap.size Z1 rx7 := bnext rhB6 hb; have rhs7 := hb; clear hb; clear TK; have TK : Tok 7 := ⟨trivial⟩)
                          | (have _t : Tok 7 := TK; go_at_call 32; refine (bsign_any rm7 rp7 rk7 rd7 ((va * vb)) _ rH7.out.1 (by have := (rH7.out).2; omega) (sa * sb) HS3.out).mono ?_; rintro e rx8 ⟨rfl, hb⟩; have rhB8 : Below Z1.heap.size Z1 rx8 := bnext rhB7 hb; have rhs8 := hb; clear hb; clear TK; have TK : Tok 8 := ⟨trivial⟩)
                          | (have _t : Tok 8 := TK; go_at_call 32; refine (bsign_any na ao la ca (va) _ (HN1.out.1.later rhB8).1 (by have := ((HN1.out.1.later rhB8)).2; omega) sa HS1.out).mono ?_; rintro e rx9 ⟨rfl, hb⟩; have rhB9 : Below Z1.heap.size Z1 rx9 := bnext rhB8 hb; have rhs9 := hb; clear hb; clear TK; have TK : Tok 9 := ⟨trivial⟩)
                          | (have _t : Tok 9 := TK; go_at_call 32; refine (bsign_any nb bo lb cb (vb) _ (HN1.out.2.1.later rhB9).1 (by have := ((HN1.out.2.1.later rhB9)).2; omega) sb HS2.out).mono ?_; rintro e rx10 ⟨rfl, hb⟩; have rhB10 : Below Z1.heap.size Z1 rx10 := bnext rhB9 hb; have rhs10 := hb; clear hb; clear TK; have TK : Tok 10 := ⟨trivial⟩; obtain ⟨⟨_, _⟩, ⟨_, _⟩, ⟨_, _⟩⟩ := HBD.out))
                      go_wp2
                      go_meet
                      exact ⟨by simp [wrap_sign HBD.out.1 HBD.out.2.1], rhB10⟩
                    · as_aux_lemma =>
                      -- region13
                      have HC1 : Hid (cmpI va vb = 1) := hc1
                      have HC2 : Hid (cmpI vb va = (-1)) := hc2
                      have HC3 : Hid (cmpI (va + vc) (vb + vc) = 1) := hc3
                      clear hc1 hc2 hc3
                      have hwr : IntKind.i64.wrap (-(-1)) = 1 := by decide
                      have hwr2 : IntKind.i64.wrap (1) = 1 := by decide
                      go_region_held3 (fun w' => (Below Z1.heap.size Z1 w' ∧ w'.cell? ⟨w5.heap.size, 0, none⟩ = some (.bool na) ∧ w'.cell? ⟨w5.heap.size, 1, none⟩ = some (.slice ao la ca) ∧ w'.cell? ⟨(w5.heap.size + 1), 0, none⟩ = some (.bool nb) ∧ w'.cell? ⟨(w5.heap.size + 1), 1, none⟩ = some (.slice bo lb cb) ∧ w'.cell? ⟨(wr.heap.size + 1), 0, none⟩ = some (.bool nc) ∧ w'.cell? ⟨(wr.heap.size + 1), 1, none⟩ = some (.slice co lc cc)))
                        (first
                          | exact KS1.out _ (Below.refl _ _).drew
                          | exact KS1.out _ (by assumption)
                          | assumption)
                        (first
                          | (have _t : Tok 0 := TK; go_at_call 34; refine (bcmp_any na nb ao bo la ca lb cb (va) (vb) _ (HN1.out.1.later (Below.refl _ _).drew).1 (HN1.out.2.1.later (Below.refl _ _).drew).1 (by have := ((HN1.out.1.later (Below.refl _ _).drew)).2; omega) (by have := ((HN1.out.2.1.later (Below.refl _ _).drew)).2; omega) 1 HC1.out).mono ?_; rintro e rx1 ⟨rfl, hb⟩; have rhB1 : Below Z1.heap.size Z1 rx1 := bnext (Below.refl _ _).drew hb; have rhs1 := hb; clear hb; clear TK; have TK : Tok 1 := ⟨trivial⟩)
                          | (have _t : Tok 1 := TK; go_at_call 34; refine (bcmp_any nb na bo ao lb cb la ca (vb) (va) _ (HN1.out.2.1.later rhB1).1 (HN1.out.1.later rhB1).1 (by have := ((HN1.out.2.1.later rhB1)).2; omega) (by have := ((HN1.out.1.later rhB1)).2; omega) (-1) HC2.out).mono ?_; rintro e rx2 ⟨rfl, hb⟩; have rhB2 : Below Z1.heap.size Z1 rx2 := bnext rhB1 hb; have rhs2 := hb; clear hb; clear TK; have TK : Tok 2 := ⟨trivial⟩)
                          | (have _t : Tok 2 := TK; go_at_call 34; refine (bcmp_any na nb ao bo la ca lb cb (va) (vb) _ (HN1.out.1.later rhB2).1 (HN1.out.2.1.later rhB2).1 (by have := ((HN1.out.1.later rhB2)).2; omega) (by have := ((HN1.out.2.1.later rhB2)).2; omega) 1 HC1.out).mono ?_; rintro e rx3 ⟨rfl, hb⟩; have rhB3 : Below Z1.heap.size Z1 rx3 := bnext rhB2 hb; have rhs3 := hb; clear hb; clear TK; have TK : Tok 3 := ⟨trivial⟩)
                          | (have _t : Tok 3 := TK; go_at_call 30; refine (ladd_small na nc ao co la ca lc cc (va) (vc) _ (HN1.out.1.later rhB3).1 (HN1.out.2.2.later rhB3).1 (by have := ((HN1.out.1.later rhB3)).2; omega) (by have := ((HN1.out.2.2.later rhB3)).2; omega)).mono ?_; rintro e rx4 ⟨rm4, rp4, rk4, rd4, rfl, hs, ho, hb⟩; have rH4 : Hid (Num rx4 rm4 rp4 rk4 rd4 (va + vc) 61) := num_add hs ho (HN1.out.1.later rhB3) (HN1.out.2.2.later rhB3); clear hs ho; have rhB4 : Below Z1.heap.size Z1 rx4 := bnext rhB3 hb; have rhs4 := hb; clear hb; clear TK; have TK : Tok 4 := ⟨trivial⟩)
                          | (have _t : Tok 4 := TK; go_at_call 30; refine (ladd_small nb nc bo co lb cb lc cc (vb) (vc) _ (HN1.out.2.1.later rhB4).1 (HN1.out.2.2.later rhB4).1 (by have := ((HN1.out.2.1.later rhB4)).2; omega) (by have := ((HN1.out.2.2.later rhB4)).2; omega)).mono ?_; rintro e rx5 ⟨rm5, rp5, rk5, rd5, rfl, hs, ho, hb⟩; have rH5 : Hid (Num rx5 rm5 rp5 rk5 rd5 (vb + vc) 61) := num_add hs ho (HN1.out.2.1.later rhB4) (HN1.out.2.2.later rhB4); clear hs ho; have rhB5 : Below Z1.heap.size Z1 rx5 := bnext rhB4 hb; have rhs5 := hb; clear hb; clear TK; have TK : Tok 5 := ⟨trivial⟩)
                          | (have _t : Tok 5 := TK; go_at_call 34; refine (bcmp_any rm4 rm5 rp4 rp5 rk4 rd4 rk5 rd5 ((va + vc)) ((vb + vc)) _ (rH4.out.later (rhs5)).1 rH5.out.1 (by have := ((rH4.out.later (rhs5))).2; omega) (by have := (rH5.out).2; omega) 1 HC3.out).mono ?_; rintro e rx6 ⟨rfl, hb⟩; have rhB6 : Below Z1.heap.size Z1 rx6 := bnext rhB5 hb; have rhs6 := hb; clear hb; clear TK; have TK : Tok 6 := ⟨trivial⟩)
                          | (have _t : Tok 6 := TK; go_at_call 31; refine (lmul_any na nb ao bo la ca lb cb (va) (vb) _ (HN1.out.1.later rhB6).1 (HN1.out.2.1.later rhB6).1 (by have := ((HN1.out.1.later rhB6)).2; omega) (by have := ((HN1.out.2.1.later rhB6)).2; omega)).mono ?_; rintro e rx7 ⟨rm7, rp7, rk7, rd7, rfl, hs, ho, hb⟩; have rH7 : Hid (Num rx7 rm7 rp7 rk7 rd7 (va * vb) 60) := num_mul hs ho (HN1.out.1.later rhB6) (HN1.out.2.1.later rhB6); clear hs ho; have rhB7 : Below Z1.heap.size Z1 rx7 := bnext rhB6 hb; have rhs7 := hb; clear hb; clear TK; have TK : Tok 7 := ⟨trivial⟩)
                          | (have _t : Tok 7 := TK; go_at_call 32; refine (bsign_any rm7 rp7 rk7 rd7 ((va * vb)) _ rH7.out.1 (by have := (rH7.out).2; omega) (sa * sb) HS3.out).mono ?_; rintro e rx8 ⟨rfl, hb⟩; have rhB8 : Below Z1.heap.size Z1 rx8 := bnext rhB7 hb; have rhs8 := hb; clear hb; clear TK; have TK : Tok 8 := ⟨trivial⟩)
                          | (have _t : Tok 8 := TK; go_at_call 32; refine (bsign_any na ao la ca (va) _ (HN1.out.1.later rhB8).1 (by have := ((HN1.out.1.later rhB8)).2; omega) sa HS1.out).mono ?_; rintro e rx9 ⟨rfl, hb⟩; have rhB9 : Below Z1.heap.size Z1 rx9 := bnext rhB8 hb; have rhs9 := hb; clear hb; clear TK; have TK : Tok 9 := ⟨trivial⟩)
                          | (have _t : Tok 9 := TK; go_at_call 32; refine (bsign_any nb bo lb cb (vb) _ (HN1.out.2.1.later rhB9).1 (by have := ((HN1.out.2.1.later rhB9)).2; omega) sb HS2.out).mono ?_; rintro e rx10 ⟨rfl, hb⟩; have rhB10 : Below Z1.heap.size Z1 rx10 := bnext rhB9 hb; have rhs10 := hb; clear hb; clear TK; have TK : Tok 10 := ⟨trivial⟩; obtain ⟨⟨_, _⟩, ⟨_, _⟩, ⟨_, _⟩⟩ := HBD.out))
                      go_wp2
                      go_meet
                      exact ⟨by simp [wrap_sign HBD.out.1 HBD.out.2.1], rhB10⟩
                  case rest => as_aux_lemma =>
                    -- rest
                    obtain ⟨rfl, hbZ⟩ := hcut
                    obtain ⟨Z2, hZ2⟩ : ∃ Z2, Z2 = wc := ⟨_, rfl⟩
                    subst hZ2
                    have ua := HU1.out.1.later hbZ
                    have ub := HU1.out.2.1.later hbZ
                    have HW2 : Hid (Below w.heap.size w Z2) := bnext HW1.out hbZ
                    clear hbZ KS1 HN1 HU1 HW1 HS1 HS3 HBD
                    have KS2 : Hid (∀ w' : World, Below Z2.heap.size Z2 w' → (Below Z2.heap.size Z2 w' ∧ w'.cell? ⟨w5.heap.size, 0, none⟩ = some (.bool na) ∧ w'.cell? ⟨w5.heap.size, 1, none⟩ = some (.slice ao la ca) ∧ w'.cell? ⟨(w5.heap.size + 1), 0, none⟩ = some (.bool nb) ∧ w'.cell? ⟨(w5.heap.size + 1), 1, none⟩ = some (.slice bo lb cb))) := fun w' h => ⟨h, (ua.box.later h ua.lt).1, (ua.box.later h ua.lt).2, (ub.box.later h ub.lt).1, (ub.box.later h ub.lt).2⟩
                    have HN2 : Hid (Num Z2 na ao la ca va 30 ∧ Num Z2 nb bo lb cb vb 30) := ⟨⟨ua.int, hla⟩, ⟨ub.int, hlb⟩⟩
                    have HU2 : Hid (InVar Z2 w5.heap.size na ao la ca va ∧ InVar Z2 (w5.heap.size + 1) nb bo lb cb vb) := ⟨ua, ub⟩
                    clear ua ub
                    obtain ⟨_, gb0, gb1⟩ : Below Z2.heap.size Z2 Z2 ∧ Z2.cell? ⟨(w5.heap.size + 1), 0, none⟩ = some (.bool nb) ∧ Z2.cell? ⟨(w5.heap.size + 1), 1, none⟩ = some (.slice bo lb cb) := ⟨Below.refl _ _, (KS2.out _ (Below.refl _ _)).2.2.2⟩
                    by_cases hvb : vb = 0
                    · as_aux_lemma =>
                      have HS0 : Hid (cmpI vb 0 = 0) := cmpI_eq hvb
                      clear hvb HS2
                      go_wp2_with (go_at_call 32; refine (bsign_any nb bo lb cb vb _ HN2.out.2.1 (by omega) 0 HS0.out).mono ?_; rintro e x1 ⟨rfl, hb1⟩)
                      go_roundw
                      case rel => exact ⟨k + 1, by omega, by omega, by go_num, bnext HW2.out hb1⟩
                      case measure => simp [intOf]; omega
                    · have HVB : Hid (vb ≠ 0) := hvb
                      have hcs1 : (sb != 0) = true := by (have := HS2.out; rw [← this]; unfold cmpI; split <;> (try split) <;> simp_all; omega)
                      clear hvb
                      go_upto_region 15 with fail
                      go_cut [169] (fun s169 wx => s169 = .bool true ∧ Below Z2.heap.size Z2 wx)
                      case first => as_aux_lemma =>
                        -- region15
                        go_wp2_with (go_at_call 32; refine (bsign_any nb bo lb cb vb _ HN2.out.2.1 (by omega) sb HS2.out).mono ?_; rintro e x1 ⟨rfl, hb1⟩)
                        go_meet
                        exact ⟨by first | rfl | simp [hcs1], hb1⟩
                      case rest => as_aux_lemma =>
                        -- rest
                        obtain ⟨rfl, hb1⟩ := hcut
                        obtain ⟨Z3, hZ3⟩ : ∃ Z3, Z3 = wc := ⟨_, rfl⟩
                        subst hZ3
                        clear gb0 gb1
                        have ua := HU2.out.1.later hb1
                        have ub := HU2.out.2.later hb1
                        have HW3 : Hid (Below w.heap.size w Z3) := bnext HW2.out hb1
                        clear hb1 KS2 HN2 HU2 HW2 
                        have KS3 : Hid (∀ w' : World, Below Z3.heap.size Z3 w' → (Below Z3.heap.size Z3 w' ∧ w'.cell? ⟨w5.heap.size, 0, none⟩ = some (.bool na) ∧ w'.cell? ⟨w5.heap.size, 1, none⟩ = some (.slice ao la ca) ∧ w'.cell? ⟨(w5.heap.size + 1), 0, none⟩ = some (.bool nb) ∧ w'.cell? ⟨(w5.heap.size + 1), 1, none⟩ = some (.slice bo lb cb))) := fun w' h => ⟨h, (ua.box.later h ua.lt).1, (ua.box.later h ua.lt).2, (ub.box.later h ub.lt).1, (ub.box.later h ub.lt).2⟩
                        have HN3 : Hid (Num Z3 na ao la ca va 30 ∧ Num Z3 nb bo lb cb vb 30) := ⟨⟨ua.int, hla⟩, ⟨ub.int, hlb⟩⟩
                        have HU3 : Hid (InVar Z3 w5.heap.size na ao la ca va ∧ InVar Z3 (w5.heap.size + 1) nb bo lb cb vb) := ⟨ua, ub⟩
                        clear ua ub
                        obtain ⟨_, ga0, ga1, gb0, gb1⟩ := KS3.out _ (Below.refl _ _)
                        go_upto_region 16 with fail
                        go_cut [8, 9, 10] (fun sA sB sC wx => ∃ rA rB n5 ao5 l5 c5 n6 ao6 l6 c6 q5 r5, sA = .pointer (some ⟨rA, 0, none⟩) ∧ sB = .pointer (some ⟨rB, 0, none⟩) ∧ sC = .int .i64 0 ∧ InVar wx rA n5 ao5 l5 c5 q5 ∧ InVar wx rB n6 ao6 l6 c6 r5 ∧ (l5 ≤ 200 ∧ l6 ≤ 200) ∧ FloorOf va vb q5 r5 ∧ Below Z3.heap.size Z3 wx)
                        case first => as_aux_lemma =>
                          -- region16
                          go_wp2_with (go_at_call 20; refine (bdivide_any na nb ao bo la ca lb cb va vb _ HN3.out.1.1 HN3.out.2.1 (by omega) (by omega) HVB.out).mono ?_; rintro e y5 ⟨q5, r5, hfl, n5, ao5, l5, c5, n6, ao6, l6, c6, rfl, hs5, ho5, hs6, ho6, hb5⟩; have HA5 := two_new hs5 ho5 hs6 ho6 hb5; have HF5 := floor_lens hfl HVB.out HN3.out.1 HN3.out.2 ho5 ho6; clear hs5 ho5 hs6 ho6 hb5)
                          go_meet
                          exact ⟨_, _, _, _, _, _, _, _, _, _, _, _, rfl, rfl, rfl, HA5.out.1, HA5.out.2.1, ⟨Nat.le_trans HF5.1 (by decide), Nat.le_trans HF5.2 (by decide)⟩, hfl, HA5.out.2.2⟩
                        case rest => as_aux_lemma =>
                          -- rest
                          obtain ⟨rq, rr, nq, aq, lq, cq, nr, ar, lr, cr, vq, vr, rfl, rfl, rfl, uq, ur, ⟨hlq, hlr⟩, hfl, hbZ⟩ := hcut
                          obtain ⟨Z4, hZ4⟩ : ∃ Z4, Z4 = wc := ⟨_, rfl⟩
                          subst hZ4
                          have ua := HU3.out.1.later hbZ
                          have ub := HU3.out.2.later hbZ
                          have HW4 : Hid (Below w.heap.size w Z4) := bnext HW3.out hbZ
                          clear hbZ KS3 HN3 HU3 HW3 ga0 ga1 gb0 gb1
                          have KS4 : Hid (∀ w' : World, Below Z4.heap.size Z4 w' → (Below Z4.heap.size Z4 w' ∧ w'.cell? ⟨w5.heap.size, 0, none⟩ = some (.bool na) ∧ w'.cell? ⟨w5.heap.size, 1, none⟩ = some (.slice ao la ca) ∧ w'.cell? ⟨(w5.heap.size + 1), 0, none⟩ = some (.bool nb) ∧ w'.cell? ⟨(w5.heap.size + 1), 1, none⟩ = some (.slice bo lb cb) ∧ w'.cell? ⟨rq, 0, none⟩ = some (.bool nq) ∧ w'.cell? ⟨rq, 1, none⟩ = some (.slice aq lq cq) ∧ w'.cell? ⟨rr, 0, none⟩ = some (.bool nr) ∧ w'.cell? ⟨rr, 1, none⟩ = some (.slice ar lr cr))) := fun w' h => ⟨h, (ua.box.later h ua.lt).1, (ua.box.later h ua.lt).2, (ub.box.later h ub.lt).1, (ub.box.later h ub.lt).2, (uq.box.later h uq.lt).1, (uq.box.later h uq.lt).2, (ur.box.later h ur.lt).1, (ur.box.later h ur.lt).2⟩
                          have HN4 : Hid (Num Z4 na ao la ca va 30 ∧ Num Z4 nb bo lb cb vb 30 ∧ Num Z4 nq aq lq cq vq 200 ∧ Num Z4 nr ar lr cr vr 200) := ⟨⟨ua.int, hla⟩, ⟨ub.int, hlb⟩, ⟨uq.int, hlq⟩, ⟨ur.int, hlr⟩⟩
                          have HU4 : Hid (InVar Z4 w5.heap.size na ao la ca va ∧ InVar Z4 (w5.heap.size + 1) nb bo lb cb vb ∧ InVar Z4 rq nq aq lq cq vq ∧ InVar Z4 rr nr ar lr cr vr) := ⟨ua, ub, uq, ur⟩
                          clear ua ub uq ur
                          have HFL : Hid (FloorOf va vb vq vr) := hfl
                          have HQ1 : Hid (decide (vq * vb + vr = va) = true) := decide_eq_true (floor_back hfl)
                          have HQ2 : Hid (cmpI (vr.natAbs : Int) (vb.natAbs : Int) = -1) := floor_less hfl
                          clear hfl
                          have TK : Tok 0 := ⟨trivial⟩
                          go_wp2
                          go_cut [209] (fun s209 wx => s209 = .bool false ∧ Below Z4.heap.size Z4 wx)
                          case first =>
                            rcases floor_signs HFL.out with hr0 | ⟨hr0, hr1⟩ | ⟨hr0, hr1⟩
                            · as_aux_lemma =>
                              -- region17z
                              have HR0 : Hid (cmpI vr 0 = 0) := hr0
                              clear hr0
                              refine wp_region_noPanic ?_
                              refine wp_region_held_drew (S := fun w' => (Below Z4.heap.size Z4 w' ∧ w'.cell? ⟨w5.heap.size, 0, none⟩ = some (.bool na) ∧ w'.cell? ⟨w5.heap.size, 1, none⟩ = some (.slice ao la ca) ∧ w'.cell? ⟨(w5.heap.size + 1), 0, none⟩ = some (.bool nb) ∧ w'.cell? ⟨(w5.heap.size + 1), 1, none⟩ = some (.slice bo lb cb) ∧ w'.cell? ⟨rq, 0, none⟩ = some (.bool nq) ∧ w'.cell? ⟨rq, 1, none⟩ = some (.slice aq lq cq) ∧ w'.cell? ⟨rr, 0, none⟩ = some (.bool nr) ∧ w'.cell? ⟨rr, 1, none⟩ = some (.slice ar lr cr))) (by kernel_rfl) (by (try dsimp only); exact KS4.out _ (Below.refl _ _).drew) (fun hHeld => ?_)
                              refine wpAnyH_take (i := 0) (oi := Oper.mk (some 177) _ _ _ _ _) (v := ?_) rfl (by kernel_rfl) (by kernel_rfl) (by kernel_rfl) (fun _ _ _ h => h) (Or.inl ⟨by rfl, ?_⟩) (by assumption) ?_
                              rotate_left
                              · (intro w hSw; (try dsimp only at hSw); go_simp <;> (try with_reducible rfl))
                              (try simp only [Act.put, List.setIfInBounds_toArray, List.set_cons_zero, List.set_cons_succ])
                              refine wpAnyH_ready (rs := [1]) (by kernel_rfl) (by simp) ?_
                              refine AllReadyH.cons (o := Oper.mk (some 178) _ _ _ _ _) rfl (fun K hK => ?_) AllReadyH.nil
                              go_simp
                              (have _t : Tok 0 := TK; go_at_call 27; refine (num_any 0 _).mono ?_; rintro e xn ⟨rfl, hxn⟩; replace hxn := hxn.symm; subst hxn; clear TK; have TK : Tok 1 := ⟨trivial⟩)
                              (try go_wp2_with fail)
                              clear hHeld
                              refine hK.out _ _ (by (try dsimp only); first | exact KS4.out _ (Below.refl _ _).drew | exact KS4.out _ (by assumption)) (fun hHeld => ?_)
                              clear hK K
                              (try simp only [Act.put, List.setIfInBounds_toArray, List.set_cons_zero, List.set_cons_succ])
                              refine wpAnyH_take (i := 2) (oi := Oper.mk (some 179) _ _ _ _ _) (v := ?_) rfl (by kernel_rfl) (by kernel_rfl) (by kernel_rfl) (fun _ _ _ h => h) (Or.inl ⟨by rfl, ?_⟩) (by assumption) ?_
                              rotate_left
                              · (intro w hSw; (try dsimp only at hSw); go_simp <;> (try with_reducible rfl))
                              (try simp only [Act.put, List.setIfInBounds_toArray, List.set_cons_zero, List.set_cons_succ])
                              refine wpAnyH_take (i := 3) (oi := Oper.mk (some 180) _ _ _ _ _) (v := ?_) rfl (by kernel_rfl) (by kernel_rfl) (by kernel_rfl) (fun _ _ _ h => h) (Or.inl ⟨by rfl, ?_⟩) (by assumption) ?_
                              rotate_left
                              · (intro w hSw; (try dsimp only at hSw); go_simp <;> (try with_reducible rfl))
                              (try simp only [Act.put, List.setIfInBounds_toArray, List.set_cons_zero, List.set_cons_succ])
                              refine wpAnyH_take (i := 4) (oi := Oper.mk (some 181) _ _ _ _ _) (v := ?_) rfl (by kernel_rfl) (by kernel_rfl) (by kernel_rfl) (fun _ _ _ h => h) (Or.inl ⟨by rfl, ?_⟩) (by assumption) ?_
                              rotate_left
                              · (intro w hSw; (try dsimp only at hSw); go_simp <;> (try with_reducible rfl))
                              (try simp only [Act.put, List.setIfInBounds_toArray, List.set_cons_zero, List.set_cons_succ])
                              refine wpAnyH_take (i := 5) (oi := Oper.mk (some 182) _ _ _ _ _) (v := ?_) rfl (by kernel_rfl) (by kernel_rfl) (by kernel_rfl) (fun _ _ _ h => h) (Or.inl ⟨by rfl, ?_⟩) (by assumption) ?_
                              rotate_left
                              · (intro w hSw; (try dsimp only at hSw); go_simp <;> (try with_reducible rfl))
                              (try simp only [Act.put, List.setIfInBounds_toArray, List.set_cons_zero, List.set_cons_succ])
                              refine wpAnyH_take (i := 7) (oi := Oper.mk (some 184) _ _ _ _ _) (v := ?_) rfl (by kernel_rfl) (by kernel_rfl) (by kernel_rfl) (fun _ _ _ h => h) (Or.inl ⟨by rfl, ?_⟩) (by assumption) ?_
                              rotate_left
                              · (intro w hSw; (try dsimp only at hSw); go_simp <;> (try with_reducible rfl))
                              (try simp only [Act.put, List.setIfInBounds_toArray, List.set_cons_zero, List.set_cons_succ])
                              refine wpAnyH_take (i := 9) (oi := Oper.mk (some 186) _ _ _ _ _) (v := ?_) rfl (by kernel_rfl) (by kernel_rfl) (by kernel_rfl) (fun _ _ _ h => h) (Or.inl ⟨by rfl, ?_⟩) (by assumption) ?_
                              rotate_left
                              · (intro w hSw; (try dsimp only at hSw); go_simp <;> (try with_reducible rfl))
                              (try simp only [Act.put, List.setIfInBounds_toArray, List.set_cons_zero, List.set_cons_succ])
                              refine wpAnyH_ready (rs := [6]) (by kernel_rfl) (by simp) ?_
                              refine AllReadyH.cons (o := Oper.mk (some 183) _ _ _ _ _) rfl (fun K hK => ?_) AllReadyH.nil
                              go_simp
                              (have _t : Tok 1 := TK; go_at_call 31; refine (lmul_any nq nb aq bo lq cq lb cb (vq) (vb) _ (HN4.out.2.2.1.later (Below.refl _ _).drew).1 (HN4.out.2.1.later (Below.refl _ _).drew).1 (by have := ((HN4.out.2.2.1.later (Below.refl _ _).drew)).2; omega) (by have := ((HN4.out.2.1.later (Below.refl _ _).drew)).2; omega)).mono ?_; rintro e rx1 ⟨rm1, rp1, rk1, rd1, rfl, hs, ho, hb⟩; have rH1 : Hid (Num rx1 rm1 rp1 rk1 rd1 (vq * vb) 230) := num_mul hs ho (HN4.out.2.2.1.later (Below.refl _ _).drew) (HN4.out.2.1.later (Below.refl _ _).drew); clear hs ho; have rhB1 : Below Z4.heap.size Z4 rx1 := bnext (Below.refl _ _).drew hb; have rhs1 := hb; clear hb; clear TK; have TK : Tok 2 := ⟨trivial⟩)
                              (try go_wp2_with fail)
                              clear hHeld
                              refine hK.out _ _ (by (try dsimp only); first | exact KS4.out _ (Below.refl _ _).drew | exact KS4.out _ (by assumption)) (fun hHeld => ?_)
                              clear hK K
                              (try simp only [Act.put, List.setIfInBounds_toArray, List.set_cons_zero, List.set_cons_succ])
                              refine wpAnyH_ready (rs := [8]) (by kernel_rfl) (by simp) ?_
                              refine AllReadyH.cons (o := Oper.mk (some 185) _ _ _ _ _) rfl (fun K hK => ?_) AllReadyH.nil
                              go_simp
                              (have _t : Tok 2 := TK; go_at_call 30; refine (ladd_small rm1 nr rp1 ar rk1 rd1 lr cr ((vq * vb)) (vr) _ rH1.out.1 (HN4.out.2.2.2.later rhB1).1 (by have := (rH1.out).2; omega) (by have := ((HN4.out.2.2.2.later rhB1)).2; omega)).mono ?_; rintro e rx2 ⟨rm2, rp2, rk2, rd2, rfl, hs, ho, hb⟩; have rH2 : Hid (Num rx2 rm2 rp2 rk2 rd2 ((vq * vb) + vr) 431) := num_add hs ho rH1.out (HN4.out.2.2.2.later rhB1); clear hs ho; have rhB2 : Below Z4.heap.size Z4 rx2 := bnext rhB1 hb; have rhs2 := hb; clear hb; clear TK; have TK : Tok 3 := ⟨trivial⟩)
                              (try go_wp2_with fail)
                              clear hHeld
                              refine hK.out _ _ (by (try dsimp only); first | exact KS4.out _ (Below.refl _ _).drew | exact KS4.out _ (by assumption)) (fun hHeld => ?_)
                              clear hK K
                              (try simp only [Act.put, List.setIfInBounds_toArray, List.set_cons_zero, List.set_cons_succ])
                              refine wpAnyH_ready (rs := [10]) (by kernel_rfl) (by simp) ?_
                              refine AllReadyH.cons (o := Oper.mk (some 187) _ _ _ _ _) rfl (fun K hK => ?_) AllReadyH.nil
                              go_simp
                              (have _t : Tok 3 := TK; go_at_call 21; refine (eqint_at rm2 na rp2 ao rk2 rd2 la ca (((vq * vb) + vr)) (va) _ rH2.out.1 (HN4.out.1.later rhB2).1 (by have := (rH2.out).2; omega) true HQ1.out).mono ?_; rintro e rx3 ⟨rfl, hb⟩; have rhB3 : Below Z4.heap.size Z4 rx3 := bnext rhB2 hb; have rhs3 := hb; clear hb; clear TK; have TK : Tok 4 := ⟨trivial⟩)
                              (try go_wp2_with fail)
                              clear hHeld
                              refine hK.out _ _ (by (try dsimp only); first | exact KS4.out _ (Below.refl _ _).drew | exact KS4.out _ (by assumption)) (fun hHeld => ?_)
                              clear hK K
                              (try simp only [Act.put, List.setIfInBounds_toArray, List.set_cons_zero, List.set_cons_succ])
                              refine wpAnyH_take (i := 11) (oi := Oper.mk (some 188) _ _ _ _ _) (v := ?_) rfl (by kernel_rfl) (by kernel_rfl) (by kernel_rfl) (fun _ _ _ h => h) (Or.inl ⟨by rfl, ?_⟩) (by assumption) ?_
                              rotate_left
                              · (intro w hSw; (try dsimp only at hSw); go_simp <;> (try with_reducible rfl))
                              (try simp only [Act.put, List.setIfInBounds_toArray, List.set_cons_zero, List.set_cons_succ])
                              refine wpAnyH_take (i := 12) (oi := Oper.mk (some 189) _ _ _ _ _) (v := ?_) rfl (by kernel_rfl) (by kernel_rfl) (by kernel_rfl) (fun _ _ _ h => h) (Or.inl ⟨by rfl, ?_⟩) (by assumption) ?_
                              rotate_left
                              · (intro w hSw; (try dsimp only at hSw); go_simp <;> (try with_reducible rfl))
                              (try simp only [Act.put, List.setIfInBounds_toArray, List.set_cons_zero, List.set_cons_succ])
                              refine wpAnyH_take (i := 13) (oi := Oper.mk (some 190) _ _ _ _ _) (v := ?_) rfl (by kernel_rfl) (by kernel_rfl) (by kernel_rfl) (fun _ _ _ h => h) (Or.inl ⟨by rfl, ?_⟩) (by assumption) ?_
                              rotate_left
                              · (intro w hSw; (try dsimp only at hSw); go_simp <;> (try with_reducible rfl))
                              (try simp only [Act.put, List.setIfInBounds_toArray, List.set_cons_zero, List.set_cons_succ])
                              refine wpAnyH_take (i := 14) (oi := Oper.mk (some 191) _ _ _ _ _) (v := ?_) rfl (by kernel_rfl) (by kernel_rfl) (by kernel_rfl) (fun _ _ _ h => h) (Or.inl ⟨by rfl, ?_⟩) (by assumption) ?_
                              rotate_left
                              · (intro w hSw; (try dsimp only at hSw); go_simp <;> (try with_reducible rfl))
                              (try simp only [Act.put, List.setIfInBounds_toArray, List.set_cons_zero, List.set_cons_succ])
                              refine wpAnyH_ready (rs := [15]) (by kernel_rfl) (by simp) ?_
                              refine AllReadyH.cons (o := Oper.mk (some 192) _ _ _ _ _) rfl (fun K hK => ?_) AllReadyH.nil
                              go_simp
                              (have _t : Tok 4 := TK; go_at_call 32; refine (bsign_any nr ar lr cr (vr) _ (HN4.out.2.2.2.later rhB3).1 (by have := ((HN4.out.2.2.2.later rhB3)).2; omega) 0 HR0.out).mono ?_; rintro e rx4 ⟨rfl, hb⟩; have rhB4 : Below Z4.heap.size Z4 rx4 := bnext rhB3 hb; have rhs4 := hb; clear hb; clear TK; have TK : Tok 5 := ⟨trivial⟩)
                              (try go_wp2_with fail)
                              clear hHeld
                              refine hK.out _ _ (by (try dsimp only); first | exact KS4.out _ (Below.refl _ _).drew | exact KS4.out _ (by assumption)) (fun hHeld => ?_)
                              clear hK K
                              (try simp only [Act.put, List.setIfInBounds_toArray, List.set_cons_zero, List.set_cons_succ])
                              refine wpAnyH_take (i := 16) (oi := Oper.mk (some 193) _ _ _ _ _) (v := ?_) rfl (by kernel_rfl) (by kernel_rfl) (by kernel_rfl) (fun _ _ _ h => h) (Or.inl ⟨by rfl, ?_⟩) (by assumption) ?_
                              rotate_left
                              · (intro w hSw; (try dsimp only at hSw); go_simp <;> (try with_reducible rfl))
                              (try simp only [Act.put, List.setIfInBounds_toArray, List.set_cons_zero, List.set_cons_succ])
                              refine wpAnyH_take (i := 17) (oi := Oper.mk (some 194) _ _ _ _ _) (v := ?_) rfl (by kernel_rfl) (by kernel_rfl) (by kernel_rfl) (fun _ _ _ h => h) (Or.inl ⟨by rfl, ?_⟩) (by assumption) ?_
                              rotate_left
                              · (intro w hSw; (try dsimp only at hSw); go_simp <;> (try with_reducible rfl))
                              (try simp only [Act.put, List.setIfInBounds_toArray, List.set_cons_zero, List.set_cons_succ])
                              refine wpAnyH_take (i := 18) (oi := Oper.mk (some 195) _ _ _ _ _) (v := undef) rfl (by kernel_rfl) (by kernel_rfl) (by kernel_rfl) (fun _ _ _ h => h) (Or.inr ⟨by rfl, rfl⟩) (by assumption) ?_
                              (try simp only [Act.put, List.setIfInBounds_toArray, List.set_cons_zero, List.set_cons_succ])
                              refine wpAnyH_take (i := 20) (oi := Oper.mk (some 197) _ _ _ _ _) (v := undef) rfl (by kernel_rfl) (by kernel_rfl) (by kernel_rfl) (fun _ _ _ h => h) (Or.inr ⟨by rfl, rfl⟩) (by assumption) ?_
                              (try simp only [Act.put, List.setIfInBounds_toArray, List.set_cons_zero, List.set_cons_succ])
                              refine wpAnyH_ready (rs := [19]) (by kernel_rfl) (by simp) ?_
                              refine AllReadyH.cons (o := Oper.mk (some 196) _ _ _ _ _) rfl (fun K hK => ?_) AllReadyH.nil
                              go_simp
                              clear hHeld
                              refine hK.out _ _ (by (try dsimp only); first | exact KS4.out _ (Below.refl _ _).drew | exact KS4.out _ (by assumption)) (fun hHeld => ?_)
                              clear hK K
                              (try simp only [Act.put, List.setIfInBounds_toArray, List.set_cons_zero, List.set_cons_succ])
                              refine wpAnyH_ready (rs := [21]) (by kernel_rfl) (by simp) ?_
                              refine AllReadyH.cons (o := Oper.mk (some 198) _ _ _ _ _) rfl (fun K hK => ?_) AllReadyH.nil
                              go_simp
                              clear hHeld
                              refine hK.out _ _ (by (try dsimp only); first | exact KS4.out _ (Below.refl _ _).drew | exact KS4.out _ (by assumption)) (fun hHeld => ?_)
                              clear hK K
                              (try simp only [Act.put, List.setIfInBounds_toArray, List.set_cons_zero, List.set_cons_succ])
                              refine wpAnyH_take (i := 22) (oi := Oper.mk (some 199) _ _ _ _ _) (v := undef) rfl (by kernel_rfl) (by kernel_rfl) (by kernel_rfl) (fun _ _ _ h => h) (Or.inr ⟨by rfl, rfl⟩) (by assumption) ?_
                              (try simp only [Act.put, List.setIfInBounds_toArray, List.set_cons_zero, List.set_cons_succ])
                              refine wpAnyH_take (i := 23) (oi := Oper.mk (some 200) _ _ _ _ _) (v := ?_) rfl (by kernel_rfl) (by kernel_rfl) (by kernel_rfl) (fun _ _ _ h => h) (Or.inl ⟨by rfl, ?_⟩) (by assumption) ?_
                              rotate_left
                              · (intro w hSw; (try dsimp only at hSw); go_simp <;> (try with_reducible rfl))
                              (try simp only [Act.put, List.setIfInBounds_toArray, List.set_cons_zero, List.set_cons_succ])
                              refine wpAnyH_take (i := 24) (oi := Oper.mk (some 201) _ _ _ _ _) (v := ?_) rfl (by kernel_rfl) (by kernel_rfl) (by kernel_rfl) (fun _ _ _ h => h) (Or.inl ⟨by rfl, ?_⟩) (by assumption) ?_
                              rotate_left
                              · (intro w hSw; (try dsimp only at hSw); go_simp <;> (try with_reducible rfl))
                              (try simp only [Act.put, List.setIfInBounds_toArray, List.set_cons_zero, List.set_cons_succ])
                              refine wpAnyH_take (i := 25) (oi := Oper.mk (some 202) _ _ _ _ _) (v := ?_) rfl (by kernel_rfl) (by kernel_rfl) (by kernel_rfl) (fun _ _ _ h => h) (Or.inl ⟨by rfl, ?_⟩) (by assumption) ?_
                              rotate_left
                              · (intro w hSw; (try dsimp only at hSw); go_simp <;> (try with_reducible rfl))
                              (try simp only [Act.put, List.setIfInBounds_toArray, List.set_cons_zero, List.set_cons_succ])
                              refine wpAnyH_take (i := 26) (oi := Oper.mk (some 203) _ _ _ _ _) (v := ?_) rfl (by kernel_rfl) (by kernel_rfl) (by kernel_rfl) (fun _ _ _ h => h) (Or.inl ⟨by rfl, ?_⟩) (by assumption) ?_
                              rotate_left
                              · (intro w hSw; (try dsimp only at hSw); go_simp <;> (try with_reducible rfl))
                              (try simp only [Act.put, List.setIfInBounds_toArray, List.set_cons_zero, List.set_cons_succ])
                              refine wpAnyH_take (i := 28) (oi := Oper.mk (some 205) _ _ _ _ _) (v := ?_) rfl (by kernel_rfl) (by kernel_rfl) (by kernel_rfl) (fun _ _ _ h => h) (Or.inl ⟨by rfl, ?_⟩) (by assumption) ?_
                              rotate_left
                              · (intro w hSw; (try dsimp only at hSw); go_simp <;> (try with_reducible rfl))
                              (try simp only [Act.put, List.setIfInBounds_toArray, List.set_cons_zero, List.set_cons_succ])
                              refine wpAnyH_ready (rs := [27]) (by kernel_rfl) (by simp) ?_
                              refine AllReadyH.cons (o := Oper.mk (some 204) _ _ _ _ _) rfl (fun K hK => ?_) AllReadyH.nil
                              go_simp
                              (have _t : Tok 5 := TK; go_at_call 35; refine (babs_any nr ar lr cr (vr) _ (HN4.out.2.2.2.later rhB4).1 (by have := ((HN4.out.2.2.2.later rhB4)).2; omega)).mono ?_; rintro e rx5 ⟨rm5, rp5, rk5, rd5, rfl, hs, ho, hb⟩; have rH5 : Hid (Num rx5 rm5 rp5 rk5 rd5 ((vr).natAbs : Int) 200) := num_abs hs ho HN4.out.2.2.2; clear hs ho; have rhB5 : Below Z4.heap.size Z4 rx5 := bnext rhB4 hb; have rhs5 := hb; clear hb; clear TK; have TK : Tok 6 := ⟨trivial⟩)
                              (try go_wp2_with fail)
                              clear hHeld
                              refine hK.out _ _ (by (try dsimp only); first | exact KS4.out _ (Below.refl _ _).drew | exact KS4.out _ (by assumption)) (fun hHeld => ?_)
                              clear hK K
                              (try simp only [Act.put, List.setIfInBounds_toArray, List.set_cons_zero, List.set_cons_succ])
                              refine wpAnyH_ready (rs := [29]) (by kernel_rfl) (by simp) ?_
                              refine AllReadyH.cons (o := Oper.mk (some 206) _ _ _ _ _) rfl (fun K hK => ?_) AllReadyH.nil
                              go_simp
                              (have _t : Tok 6 := TK; go_at_call 35; refine (babs_any nb bo lb cb (vb) _ (HN4.out.2.1.later rhB5).1 (by have := ((HN4.out.2.1.later rhB5)).2; omega)).mono ?_; rintro e rx6 ⟨rm6, rp6, rk6, rd6, rfl, hs, ho, hb⟩; have rH6 : Hid (Num rx6 rm6 rp6 rk6 rd6 ((vb).natAbs : Int) 30) := num_abs hs ho HN4.out.2.1; clear hs ho; have rhB6 : Below Z4.heap.size Z4 rx6 := bnext rhB5 hb; have rhs6 := hb; clear hb; clear TK; have TK : Tok 7 := ⟨trivial⟩)
                              (try go_wp2_with fail)
                              clear hHeld
                              refine hK.out _ _ (by (try dsimp only); first | exact KS4.out _ (Below.refl _ _).drew | exact KS4.out _ (by assumption)) (fun hHeld => ?_)
                              clear hK K
                              (try simp only [Act.put, List.setIfInBounds_toArray, List.set_cons_zero, List.set_cons_succ])
                              refine wpAnyH_ready (rs := [30]) (by kernel_rfl) (by simp) ?_
                              refine AllReadyH.cons (o := Oper.mk (some 207) _ _ _ _ _) rfl (fun K hK => ?_) AllReadyH.nil
                              go_simp
                              (have _t : Tok 7 := TK; go_at_call 34; refine (bcmp_any rm5 rm6 rp5 rp6 rk5 rd5 rk6 rd6 (((vr).natAbs : Int)) (((vb).natAbs : Int)) _ (rH5.out.later (rhs6)).1 rH6.out.1 (by have := ((rH5.out.later (rhs6))).2; omega) (by have := (rH6.out).2; omega) (-1) HQ2.out).mono ?_; rintro e rx7 ⟨rfl, hb⟩; have rhB7 : Below Z4.heap.size Z4 rx7 := bnext rhB6 hb; have rhs7 := hb; clear hb; clear TK; have TK : Tok 8 := ⟨trivial⟩)
                              (try go_wp2_with fail)
                              clear hHeld
                              refine hK.out _ _ (by (try dsimp only); first | exact KS4.out _ (Below.refl _ _).drew | exact KS4.out _ (by assumption)) (fun hHeld => ?_)
                              clear hK K
                              (try simp only [Act.put, List.setIfInBounds_toArray, List.set_cons_zero, List.set_cons_succ])
                              refine wpAnyH_take (i := 31) (oi := Oper.mk (some 208) _ _ _ _ _) (v := ?_) rfl (by kernel_rfl) (by kernel_rfl) (by kernel_rfl) (fun _ _ _ h => h) (Or.inl ⟨by rfl, ?_⟩) (by assumption) ?_
                              rotate_left
                              · (intro w hSw; (try dsimp only at hSw); go_simp <;> (try with_reducible rfl))
                              (try simp only [Act.put, List.setIfInBounds_toArray, List.set_cons_zero, List.set_cons_succ])
                              refine wpAnyH_take (i := 32) (oi := Oper.mk (some 209) _ _ _ _ _) (v := ?_) rfl (by kernel_rfl) (by kernel_rfl) (by kernel_rfl) (fun _ _ _ h => h) (Or.inl ⟨by rfl, ?_⟩) (by assumption) ?_
                              rotate_left
                              · (intro w hSw; (try dsimp only at hSw); go_simp <;> (try with_reducible rfl))
                              (try simp only [Act.put, List.setIfInBounds_toArray, List.set_cons_zero, List.set_cons_succ])
                              refine wpAnyH_done (by kernel_rfl) ?_ _
                              refine NoPanic.normal ?_
                              go_wp2
                              go_meet
                              exact ⟨rfl, rhB7⟩
                            · as_aux_lemma =>
                              -- region17
                              have HR0 : Hid (cmpI vr 0 = 1) := hr0
                              have HR1 : Hid (cmpI vb 0 = 1) := hr1
                              clear hr0 hr1
                              go_region_held3 (fun w' => (Below Z4.heap.size Z4 w' ∧ w'.cell? ⟨w5.heap.size, 0, none⟩ = some (.bool na) ∧ w'.cell? ⟨w5.heap.size, 1, none⟩ = some (.slice ao la ca) ∧ w'.cell? ⟨(w5.heap.size + 1), 0, none⟩ = some (.bool nb) ∧ w'.cell? ⟨(w5.heap.size + 1), 1, none⟩ = some (.slice bo lb cb) ∧ w'.cell? ⟨rq, 0, none⟩ = some (.bool nq) ∧ w'.cell? ⟨rq, 1, none⟩ = some (.slice aq lq cq) ∧ w'.cell? ⟨rr, 0, none⟩ = some (.bool nr) ∧ w'.cell? ⟨rr, 1, none⟩ = some (.slice ar lr cr)))
                                (first
                                  | exact KS4.out _ (Below.refl _ _).drew
                                  | exact KS4.out _ (by assumption)
                                  | assumption)
                                (first
                                  | (have _t : Tok 0 := TK; go_at_call 27; refine (num_any 0 _).mono ?_; rintro e xn ⟨rfl, hxn⟩; replace hxn := hxn.symm; subst hxn; clear TK; have TK : Tok 1 := ⟨trivial⟩)
                                  | (have _t : Tok 1 := TK; go_at_call 31; refine (lmul_any nq nb aq bo lq cq lb cb (vq) (vb) _ (HN4.out.2.2.1.later (Below.refl _ _).drew).1 (HN4.out.2.1.later (Below.refl _ _).drew).1 (by have := ((HN4.out.2.2.1.later (Below.refl _ _).drew)).2; omega) (by have := ((HN4.out.2.1.later (Below.refl _ _).drew)).2; omega)).mono ?_; rintro e rx1 ⟨rm1, rp1, rk1, rd1, rfl, hs, ho, hb⟩; have rH1 : Hid (Num rx1 rm1 rp1 rk1 rd1 (vq * vb) 230) := num_mul hs ho (HN4.out.2.2.1.later (Below.refl _ _).drew) (HN4.out.2.1.later (Below.refl _ _).drew); clear hs ho; have rhB1 : Below Z4.heap.size Z4 rx1 := bnext (Below.refl _ _).drew hb; have rhs1 := hb; clear hb; clear TK; have TK : Tok 2 := ⟨trivial⟩)
                                  | (have _t : Tok 2 := TK; go_at_call 30; refine (ladd_small rm1 nr rp1 ar rk1 rd1 lr cr ((vq * vb)) (vr) _ rH1.out.1 (HN4.out.2.2.2.later rhB1).1 (by have := (rH1.out).2; omega) (by have := ((HN4.out.2.2.2.later rhB1)).2; omega)).mono ?_; rintro e rx2 ⟨rm2, rp2, rk2, rd2, rfl, hs, ho, hb⟩; have rH2 : Hid (Num rx2 rm2 rp2 rk2 rd2 ((vq * vb) + vr) 431) := num_add hs ho rH1.out (HN4.out.2.2.2.later rhB1); clear hs ho; have rhB2 : Below Z4.heap.size Z4 rx2 := bnext rhB1 hb; have rhs2 := hb; clear hb; clear TK; have TK : Tok 3 := ⟨trivial⟩)
                                  | (have _t : Tok 3 := TK; go_at_call 21; refine (eqint_at rm2 na rp2 ao rk2 rd2 la ca (((vq * vb) + vr)) (va) _ rH2.out.1 (HN4.out.1.later rhB2).1 (by have := (rH2.out).2; omega) true HQ1.out).mono ?_; rintro e rx3 ⟨rfl, hb⟩; have rhB3 : Below Z4.heap.size Z4 rx3 := bnext rhB2 hb; have rhs3 := hb; clear hb; clear TK; have TK : Tok 4 := ⟨trivial⟩)
                                  | (have _t : Tok 4 := TK; go_at_call 32; refine (bsign_any nr ar lr cr (vr) _ (HN4.out.2.2.2.later rhB3).1 (by have := ((HN4.out.2.2.2.later rhB3)).2; omega) 1 HR0.out).mono ?_; rintro e rx4 ⟨rfl, hb⟩; have rhB4 : Below Z4.heap.size Z4 rx4 := bnext rhB3 hb; have rhs4 := hb; clear hb; clear TK; have TK : Tok 5 := ⟨trivial⟩)
                                  | (have _t : Tok 5 := TK; go_at_call 32; refine (bsign_any nr ar lr cr (vr) _ (HN4.out.2.2.2.later rhB4).1 (by have := ((HN4.out.2.2.2.later rhB4)).2; omega) 1 HR0.out).mono ?_; rintro e rx5 ⟨rfl, hb⟩; have rhB5 : Below Z4.heap.size Z4 rx5 := bnext rhB4 hb; have rhs5 := hb; clear hb; clear TK; have TK : Tok 6 := ⟨trivial⟩)
                                  | (have _t : Tok 6 := TK; go_at_call 32; refine (bsign_any nb bo lb cb (vb) _ (HN4.out.2.1.later rhB5).1 (by have := ((HN4.out.2.1.later rhB5)).2; omega) 1 HR1.out).mono ?_; rintro e rx6 ⟨rfl, hb⟩; have rhB6 : Below Z4.heap.size Z4 rx6 := bnext rhB5 hb; have rhs6 := hb; clear hb; clear TK; have TK : Tok 7 := ⟨trivial⟩)
                                  | (have _t : Tok 7 := TK; go_at_call 35; refine (babs_any nr ar lr cr (vr) _ (HN4.out.2.2.2.later rhB6).1 (by have := ((HN4.out.2.2.2.later rhB6)).2; omega)).mono ?_; rintro e rx7 ⟨rm7, rp7, rk7, rd7, rfl, hs, ho, hb⟩; have rH7 : Hid (Num rx7 rm7 rp7 rk7 rd7 ((vr).natAbs : Int) 200) := num_abs hs ho HN4.out.2.2.2; clear hs ho; have rhB7 : Below Z4.heap.size Z4 rx7 := bnext rhB6 hb; have rhs7 := hb; clear hb; clear TK; have TK : Tok 8 := ⟨trivial⟩)
                                  | (have _t : Tok 8 := TK; go_at_call 35; refine (babs_any nb bo lb cb (vb) _ (HN4.out.2.1.later rhB7).1 (by have := ((HN4.out.2.1.later rhB7)).2; omega)).mono ?_; rintro e rx8 ⟨rm8, rp8, rk8, rd8, rfl, hs, ho, hb⟩; have rH8 : Hid (Num rx8 rm8 rp8 rk8 rd8 ((vb).natAbs : Int) 30) := num_abs hs ho HN4.out.2.1; clear hs ho; have rhB8 : Below Z4.heap.size Z4 rx8 := bnext rhB7 hb; have rhs8 := hb; clear hb; clear TK; have TK : Tok 9 := ⟨trivial⟩)
                                  | (have _t : Tok 9 := TK; go_at_call 34; refine (bcmp_any rm7 rm8 rp7 rp8 rk7 rd7 rk8 rd8 (((vr).natAbs : Int)) (((vb).natAbs : Int)) _ (rH7.out.later (rhs8)).1 rH8.out.1 (by have := ((rH7.out.later (rhs8))).2; omega) (by have := (rH8.out).2; omega) (-1) HQ2.out).mono ?_; rintro e rx9 ⟨rfl, hb⟩; have rhB9 : Below Z4.heap.size Z4 rx9 := bnext rhB8 hb; have rhs9 := hb; clear hb; clear TK; have TK : Tok 10 := ⟨trivial⟩))
                              go_wp2
                              go_meet
                              exact ⟨rfl, rhB9⟩
                            · as_aux_lemma =>
                              -- region17
                              have HR0 : Hid (cmpI vr 0 = (-1)) := hr0
                              have HR1 : Hid (cmpI vb 0 = (-1)) := hr1
                              clear hr0 hr1
                              go_region_held3 (fun w' => (Below Z4.heap.size Z4 w' ∧ w'.cell? ⟨w5.heap.size, 0, none⟩ = some (.bool na) ∧ w'.cell? ⟨w5.heap.size, 1, none⟩ = some (.slice ao la ca) ∧ w'.cell? ⟨(w5.heap.size + 1), 0, none⟩ = some (.bool nb) ∧ w'.cell? ⟨(w5.heap.size + 1), 1, none⟩ = some (.slice bo lb cb) ∧ w'.cell? ⟨rq, 0, none⟩ = some (.bool nq) ∧ w'.cell? ⟨rq, 1, none⟩ = some (.slice aq lq cq) ∧ w'.cell? ⟨rr, 0, none⟩ = some (.bool nr) ∧ w'.cell? ⟨rr, 1, none⟩ = some (.slice ar lr cr)))
                                (first
                                  | exact KS4.out _ (Below.refl _ _).drew
                                  | exact KS4.out _ (by assumption)
                                  | assumption)
                                (first
                                  | (have _t : Tok 0 := TK; go_at_call 27; refine (num_any 0 _).mono ?_; rintro e xn ⟨rfl, hxn⟩; replace hxn := hxn.symm; subst hxn; clear TK; have TK : Tok 1 := ⟨trivial⟩)
                                  | (have _t : Tok 1 := TK; go_at_call 31; refine (lmul_any nq nb aq bo lq cq lb cb (vq) (vb) _ (HN4.out.2.2.1.later (Below.refl _ _).drew).1 (HN4.out.2.1.later (Below.refl _ _).drew).1 (by have := ((HN4.out.2.2.1.later (Below.refl _ _).drew)).2; omega) (by have := ((HN4.out.2.1.later (Below.refl _ _).drew)).2; omega)).mono ?_; rintro e rx1 ⟨rm1, rp1, rk1, rd1, rfl, hs, ho, hb⟩; have rH1 : Hid (Num rx1 rm1 rp1 rk1 rd1 (vq * vb) 230) := num_mul hs ho (HN4.out.2.2.1.later (Below.refl _ _).drew) (HN4.out.2.1.later (Below.refl _ _).drew); clear hs ho; have rhB1 : Below Z4.heap.size Z4 rx1 := bnext (Below.refl _ _).drew hb; have rhs1 := hb; clear hb; clear TK; have TK : Tok 2 := ⟨trivial⟩)
                                  | (have _t : Tok 2 := TK; go_at_call 30; refine (ladd_small rm1 nr rp1 ar rk1 rd1 lr cr ((vq * vb)) (vr) _ rH1.out.1 (HN4.out.2.2.2.later rhB1).1 (by have := (rH1.out).2; omega) (by have := ((HN4.out.2.2.2.later rhB1)).2; omega)).mono ?_; rintro e rx2 ⟨rm2, rp2, rk2, rd2, rfl, hs, ho, hb⟩; have rH2 : Hid (Num rx2 rm2 rp2 rk2 rd2 ((vq * vb) + vr) 431) := num_add hs ho rH1.out (HN4.out.2.2.2.later rhB1); clear hs ho; have rhB2 : Below Z4.heap.size Z4 rx2 := bnext rhB1 hb; have rhs2 := hb; clear hb; clear TK; have TK : Tok 3 := ⟨trivial⟩)
                                  | (have _t : Tok 3 := TK; go_at_call 21; refine (eqint_at rm2 na rp2 ao rk2 rd2 la ca (((vq * vb) + vr)) (va) _ rH2.out.1 (HN4.out.1.later rhB2).1 (by have := (rH2.out).2; omega) true HQ1.out).mono ?_; rintro e rx3 ⟨rfl, hb⟩; have rhB3 : Below Z4.heap.size Z4 rx3 := bnext rhB2 hb; have rhs3 := hb; clear hb; clear TK; have TK : Tok 4 := ⟨trivial⟩)
                                  | (have _t : Tok 4 := TK; go_at_call 32; refine (bsign_any nr ar lr cr (vr) _ (HN4.out.2.2.2.later rhB3).1 (by have := ((HN4.out.2.2.2.later rhB3)).2; omega) (-1) HR0.out).mono ?_; rintro e rx4 ⟨rfl, hb⟩; have rhB4 : Below Z4.heap.size Z4 rx4 := bnext rhB3 hb; have rhs4 := hb; clear hb; clear TK; have TK : Tok 5 := ⟨trivial⟩)
                                  | (have _t : Tok 5 := TK; go_at_call 32; refine (bsign_any nr ar lr cr (vr) _ (HN4.out.2.2.2.later rhB4).1 (by have := ((HN4.out.2.2.2.later rhB4)).2; omega) (-1) HR0.out).mono ?_; rintro e rx5 ⟨rfl, hb⟩; have rhB5 : Below Z4.heap.size Z4 rx5 := bnext rhB4 hb; have rhs5 := hb; clear hb; clear TK; have TK : Tok 6 := ⟨trivial⟩)
                                  | (have _t : Tok 6 := TK; go_at_call 32; refine (bsign_any nb bo lb cb (vb) _ (HN4.out.2.1.later rhB5).1 (by have := ((HN4.out.2.1.later rhB5)).2; omega) (-1) HR1.out).mono ?_; rintro e rx6 ⟨rfl, hb⟩; have rhB6 : Below Z4.heap.size Z4 rx6 := bnext rhB5 hb; have rhs6 := hb; clear hb; clear TK; have TK : Tok 7 := ⟨trivial⟩)
                                  | (have _t : Tok 7 := TK; go_at_call 35; refine (babs_any nr ar lr cr (vr) _ (HN4.out.2.2.2.later rhB6).1 (by have := ((HN4.out.2.2.2.later rhB6)).2; omega)).mono ?_; rintro e rx7 ⟨rm7, rp7, rk7, rd7, rfl, hs, ho, hb⟩; have rH7 : Hid (Num rx7 rm7 rp7 rk7 rd7 ((vr).natAbs : Int) 200) := num_abs hs ho HN4.out.2.2.2; clear hs ho; have rhB7 : Below Z4.heap.size Z4 rx7 := bnext rhB6 hb; have rhs7 := hb; clear hb; clear TK; have TK : Tok 8 := ⟨trivial⟩)
                                  | (have _t : Tok 8 := TK; go_at_call 35; refine (babs_any nb bo lb cb (vb) _ (HN4.out.2.1.later rhB7).1 (by have := ((HN4.out.2.1.later rhB7)).2; omega)).mono ?_; rintro e rx8 ⟨rm8, rp8, rk8, rd8, rfl, hs, ho, hb⟩; have rH8 : Hid (Num rx8 rm8 rp8 rk8 rd8 ((vb).natAbs : Int) 30) := num_abs hs ho HN4.out.2.1; clear hs ho; have rhB8 : Below Z4.heap.size Z4 rx8 := bnext rhB7 hb; have rhs8 := hb; clear hb; clear TK; have TK : Tok 9 := ⟨trivial⟩)
                                  | (have _t : Tok 9 := TK; go_at_call 34; refine (bcmp_any rm7 rm8 rp7 rp8 rk7 rd7 rk8 rd8 (((vr).natAbs : Int)) (((vb).natAbs : Int)) _ (rH7.out.later (rhs8)).1 rH8.out.1 (by have := ((rH7.out.later (rhs8))).2; omega) (by have := (rH8.out).2; omega) (-1) HQ2.out).mono ?_; rintro e rx9 ⟨rfl, hb⟩; have rhB9 : Below Z4.heap.size Z4 rx9 := bnext rhB8 hb; have rhs9 := hb; clear hb; clear TK; have TK : Tok 10 := ⟨trivial⟩))
                              go_wp2
                              go_meet
                              exact ⟨rfl, rhB9⟩
                          case rest => as_aux_lemma =>
                            -- rest
                            obtain ⟨rfl, hbZ⟩ := hcut
                            obtain ⟨Z5, hZ5⟩ : ∃ Z5, Z5 = wc := ⟨_, rfl⟩
                            subst hZ5
                            have ua := HU4.out.1.later hbZ
                            have ub := HU4.out.2.1.later hbZ
                            have HW5 : Hid (Below w.heap.size w Z5) := bnext HW4.out hbZ
                            clear hbZ KS4 HN4 HU4 HW4 HQ1 HQ2 HFL TK
                            have KS5 : Hid (∀ w' : World, Below Z5.heap.size Z5 w' → (Below Z5.heap.size Z5 w' ∧ w'.cell? ⟨w5.heap.size, 0, none⟩ = some (.bool na) ∧ w'.cell? ⟨w5.heap.size, 1, none⟩ = some (.slice ao la ca) ∧ w'.cell? ⟨(w5.heap.size + 1), 0, none⟩ = some (.bool nb) ∧ w'.cell? ⟨(w5.heap.size + 1), 1, none⟩ = some (.slice bo lb cb))) := fun w' h => ⟨h, (ua.box.later h ua.lt).1, (ua.box.later h ua.lt).2, (ub.box.later h ub.lt).1, (ub.box.later h ub.lt).2⟩
                            have HN5 : Hid (Num Z5 na ao la ca va 30 ∧ Num Z5 nb bo lb cb vb 30) := ⟨⟨ua.int, hla⟩, ⟨ub.int, hlb⟩⟩
                            have HU5 : Hid (InVar Z5 w5.heap.size na ao la ca va ∧ InVar Z5 (w5.heap.size + 1) nb bo lb cb vb) := ⟨ua, ub⟩
                            clear ua ub
                            obtain ⟨_, ga0, ga1, gb0, gb1⟩ := KS5.out _ (Below.refl _ _)
                            obtain ⟨gg, hgg⟩ : ∃ gg : Int, ((Nat.gcd va.natAbs vb.natAbs : Nat) : Int) = gg := ⟨_, rfl⟩
                            have HGG : Hid (((Nat.gcd va.natAbs vb.natAbs : Nat) : Int) = gg) := hgg
                            have HG0 : Hid (gg ≠ 0) := (by show gg ≠ 0; rw [← hgg]; exact gcd_some HVB.out)
                            have HGa : Hid (gg ∣ va) := (by show gg ∣ va; rw [← hgg]; exact gcd_left va vb)
                            have HGb : Hid (gg ∣ vb) := (by show gg ∣ vb; rw [← hgg]; exact gcd_right va vb)
                            clear hgg
                            go_upto_region 19 with fail
                            go_cut [11, 12] (fun sA sB wx => ∃ rA n5 ao5 l5 c5, sA = .pointer (some ⟨rA, 0, none⟩) ∧ sB = .int .i64 0 ∧ InVar wx rA n5 ao5 l5 c5 gg ∧ l5 ≤ 100 ∧ Below Z5.heap.size Z5 wx)
                            case first => as_aux_lemma =>
                              -- region19
                              go_wp2_with (go_at_call 19; refine (bgcd_any na nb ao bo la ca lb cb va vb _ HN5.out.1.1 HN5.out.2.1 (by omega) (by omega) (tab_later HTB.out HW5.out)).mono ?_; rintro e y5 ⟨n5, ao5, l5, c5, rfl, hs5, ho5, hb5⟩; have hL5 := gcd_lens HN5.out.1 HN5.out.2 ho5; rw [HGG.out] at hs5 ho5; have HA5 := InVar.new (Below.refl _ _) hs5 ho5 hb5; clear hs5 ho5 hb5)
                              go_meet
                              exact ⟨_, _, _, _, _, rfl, rfl, HA5.out.1, Nat.le_trans hL5 (by decide), HA5.out.2.2⟩
                            case rest => as_aux_lemma =>
                              -- rest
                              obtain ⟨rg, ng, ag, lg, cg, rfl, rfl, ug, hlg, hbZ⟩ := hcut
                              obtain ⟨Z6, hZ6⟩ : ∃ Z6, Z6 = wc := ⟨_, rfl⟩
                              subst hZ6
                              have ua := HU5.out.1.later hbZ
                              have ub := HU5.out.2.later hbZ
                              have HW6 : Hid (Below w.heap.size w Z6) := bnext HW5.out hbZ
                              clear hbZ KS5 HN5 HU5 HW5 ga0 ga1 gb0 gb1
                              have KS6 : Hid (∀ w' : World, Below Z6.heap.size Z6 w' → (Below Z6.heap.size Z6 w' ∧ w'.cell? ⟨w5.heap.size, 0, none⟩ = some (.bool na) ∧ w'.cell? ⟨w5.heap.size, 1, none⟩ = some (.slice ao la ca) ∧ w'.cell? ⟨(w5.heap.size + 1), 0, none⟩ = some (.bool nb) ∧ w'.cell? ⟨(w5.heap.size + 1), 1, none⟩ = some (.slice bo lb cb) ∧ w'.cell? ⟨rg, 0, none⟩ = some (.bool ng) ∧ w'.cell? ⟨rg, 1, none⟩ = some (.slice ag lg cg))) := fun w' h => ⟨h, (ua.box.later h ua.lt).1, (ua.box.later h ua.lt).2, (ub.box.later h ub.lt).1, (ub.box.later h ub.lt).2, (ug.box.later h ug.lt).1, (ug.box.later h ug.lt).2⟩
                              have HN6 : Hid (Num Z6 na ao la ca va 30 ∧ Num Z6 nb bo lb cb vb 30 ∧ Num Z6 ng ag lg cg gg 100) := ⟨⟨ua.int, hla⟩, ⟨ub.int, hlb⟩, ⟨ug.int, hlg⟩⟩
                              have HU6 : Hid (InVar Z6 w5.heap.size na ao la ca va ∧ InVar Z6 (w5.heap.size + 1) nb bo lb cb vb ∧ InVar Z6 rg ng ag lg cg gg) := ⟨ua, ub, ug⟩
                              clear ua ub ug
                              obtain ⟨_, ga0, ga1, gb0, gb1, gg0, gg1⟩ := KS6.out _ (Below.refl _ _)
                              go_upto_region 20 with fail
                              go_cut [13, 14, 15] (fun sA sB sC wx => ∃ rA rB n5 ao5 l5 c5 n6 ao6 l6 c6 q5 r5, sA = .pointer (some ⟨rA, 0, none⟩) ∧ sB = .pointer (some ⟨rB, 0, none⟩) ∧ sC = .int .i64 0 ∧ InVar wx rA n5 ao5 l5 c5 q5 ∧ InVar wx rB n6 ao6 l6 c6 r5 ∧ (l5 ≤ 200 ∧ l6 ≤ 200) ∧ FloorOf va gg q5 r5 ∧ Below Z6.heap.size Z6 wx)
                              case first => as_aux_lemma =>
                                -- region20
                                go_wp2_with (go_at_call 20; refine (bdivide_any na ng ao ag la ca lg cg va gg _ HN6.out.1.1 HN6.out.2.2.1 (by omega) (by omega) HG0.out).mono ?_; rintro e y5 ⟨q5, r5, hfl, n5, ao5, l5, c5, n6, ao6, l6, c6, rfl, hs5, ho5, hs6, ho6, hb5⟩; have HA5 := two_new hs5 ho5 hs6 ho6 hb5; have HF5 := floor_lens hfl HG0.out HN6.out.1 HN6.out.2.2 ho5 ho6; clear hs5 ho5 hs6 ho6 hb5)
                                go_meet
                                exact ⟨_, _, _, _, _, _, _, _, _, _, _, _, rfl, rfl, rfl, HA5.out.1, HA5.out.2.1, ⟨Nat.le_trans HF5.1 (by decide), Nat.le_trans HF5.2 (by decide)⟩, hfl, HA5.out.2.2⟩
                              case rest => as_aux_lemma =>
                                -- rest
                                obtain ⟨rx, rz, nx, ax, lx, cx, nz, az, lz, cz, vx, vz, rfl, rfl, rfl, ux, uz, ⟨hlx, hlz⟩, hfl, hbZ⟩ := hcut
                                obtain ⟨Z7, hZ7⟩ : ∃ Z7, Z7 = wc := ⟨_, rfl⟩
                                subst hZ7
                                have ub := HU6.out.2.1.later hbZ
                                have ug := HU6.out.2.2.later hbZ
                                have HW7 : Hid (Below w.heap.size w Z7) := bnext HW6.out hbZ
                                clear hbZ KS6 HN6 HU6 HW6 ga0 ga1 gb0 gb1 gg0 gg1
                                have KS7 : Hid (∀ w' : World, Below Z7.heap.size Z7 w' → (Below Z7.heap.size Z7 w' ∧ w'.cell? ⟨(w5.heap.size + 1), 0, none⟩ = some (.bool nb) ∧ w'.cell? ⟨(w5.heap.size + 1), 1, none⟩ = some (.slice bo lb cb) ∧ w'.cell? ⟨rg, 0, none⟩ = some (.bool ng) ∧ w'.cell? ⟨rg, 1, none⟩ = some (.slice ag lg cg) ∧ w'.cell? ⟨rx, 0, none⟩ = some (.bool nx) ∧ w'.cell? ⟨rx, 1, none⟩ = some (.slice ax lx cx) ∧ w'.cell? ⟨rz, 0, none⟩ = some (.bool nz) ∧ w'.cell? ⟨rz, 1, none⟩ = some (.slice az lz cz))) := fun w' h => ⟨h, (ub.box.later h ub.lt).1, (ub.box.later h ub.lt).2, (ug.box.later h ug.lt).1, (ug.box.later h ug.lt).2, (ux.box.later h ux.lt).1, (ux.box.later h ux.lt).2, (uz.box.later h uz.lt).1, (uz.box.later h uz.lt).2⟩
                                have HN7 : Hid (Num Z7 nb bo lb cb vb 30 ∧ Num Z7 ng ag lg cg gg 100 ∧ Num Z7 nx ax lx cx vx 200 ∧ Num Z7 nz az lz cz vz 200) := ⟨⟨ub.int, hlb⟩, ⟨ug.int, hlg⟩, ⟨ux.int, hlx⟩, ⟨uz.int, hlz⟩⟩
                                have HU7 : Hid (InVar Z7 (w5.heap.size + 1) nb bo lb cb vb ∧ InVar Z7 rg ng ag lg cg gg ∧ InVar Z7 rx nx ax lx cx vx ∧ InVar Z7 rz nz az lz cz vz) := ⟨ub, ug, ux, uz⟩
                                clear ub ug ux uz
                                obtain ⟨_, gb0, gb1, gg0, gg1, gx0, gx1, gz0, gz1⟩ := KS7.out _ (Below.refl _ _)
                                have HFX : Hid (vz = 0 ∧ va = gg * vx) := floor_even hfl HGa.out
                                clear hfl
                                go_upto_region 21 with fail
                                go_cut [16, 17, 18] (fun sA sB sC wx => ∃ rA rB n5 ao5 l5 c5 n6 ao6 l6 c6 q5 r5, sA = .pointer (some ⟨rA, 0, none⟩) ∧ sB = .pointer (some ⟨rB, 0, none⟩) ∧ sC = .int .i64 0 ∧ InVar wx rA n5 ao5 l5 c5 q5 ∧ InVar wx rB n6 ao6 l6 c6 r5 ∧ (l5 ≤ 200 ∧ l6 ≤ 200) ∧ FloorOf vb gg q5 r5 ∧ Below Z7.heap.size Z7 wx)
                                case first => as_aux_lemma =>
                                  -- region21
                                  go_wp2_with (go_at_call 20; refine (bdivide_any nb ng bo ag lb cb lg cg vb gg _ HN7.out.1.1 HN7.out.2.1.1 (by omega) (by omega) HG0.out).mono ?_; rintro e y5 ⟨q5, r5, hfl, n5, ao5, l5, c5, n6, ao6, l6, c6, rfl, hs5, ho5, hs6, ho6, hb5⟩; have HA5 := two_new hs5 ho5 hs6 ho6 hb5; have HF5 := floor_lens hfl HG0.out HN7.out.1 HN7.out.2.1 ho5 ho6; clear hs5 ho5 hs6 ho6 hb5)
                                  go_meet
                                  exact ⟨_, _, _, _, _, _, _, _, _, _, _, _, rfl, rfl, rfl, HA5.out.1, HA5.out.2.1, ⟨Nat.le_trans HF5.1 (by decide), Nat.le_trans HF5.2 (by decide)⟩, hfl, HA5.out.2.2⟩
                                case rest => as_aux_lemma =>
                                  -- rest
                                  obtain ⟨ry, rt, ny, ay, ly, cy, nt, at_, lt_, ct, vy, vt, rfl, rfl, rfl, uy, ut, ⟨hly, hlt⟩, hfl, hbZ⟩ := hcut
                                  obtain ⟨Z8, hZ8⟩ : ∃ Z8, Z8 = wc := ⟨_, rfl⟩
                                  subst hZ8
                                  have ux := HU7.out.2.2.1.later hbZ
                                  have uz := HU7.out.2.2.2.later hbZ
                                  have HW8 : Hid (Below w.heap.size w Z8) := bnext HW7.out hbZ
                                  clear hbZ KS7 HN7 HU7 HW7 gb0 gb1 gg0 gg1 gx0 gx1 gz0 gz1
                                  have KS8 : Hid (∀ w' : World, Below Z8.heap.size Z8 w' → (Below Z8.heap.size Z8 w' ∧ w'.cell? ⟨rx, 0, none⟩ = some (.bool nx) ∧ w'.cell? ⟨rx, 1, none⟩ = some (.slice ax lx cx) ∧ w'.cell? ⟨rz, 0, none⟩ = some (.bool nz) ∧ w'.cell? ⟨rz, 1, none⟩ = some (.slice az lz cz) ∧ w'.cell? ⟨ry, 0, none⟩ = some (.bool ny) ∧ w'.cell? ⟨ry, 1, none⟩ = some (.slice ay ly cy) ∧ w'.cell? ⟨rt, 0, none⟩ = some (.bool nt) ∧ w'.cell? ⟨rt, 1, none⟩ = some (.slice at_ lt_ ct))) := fun w' h => ⟨h, (ux.box.later h ux.lt).1, (ux.box.later h ux.lt).2, (uz.box.later h uz.lt).1, (uz.box.later h uz.lt).2, (uy.box.later h uy.lt).1, (uy.box.later h uy.lt).2, (ut.box.later h ut.lt).1, (ut.box.later h ut.lt).2⟩
                                  have HN8 : Hid (Num Z8 nx ax lx cx vx 200 ∧ Num Z8 nz az lz cz vz 200 ∧ Num Z8 ny ay ly cy vy 200 ∧ Num Z8 nt at_ lt_ ct vt 200) := ⟨⟨ux.int, hlx⟩, ⟨uz.int, hlz⟩, ⟨uy.int, hly⟩, ⟨ut.int, hlt⟩⟩
                                  have HU8 : Hid (InVar Z8 rx nx ax lx cx vx ∧ InVar Z8 rz nz az lz cz vz ∧ InVar Z8 ry ny ay ly cy vy ∧ InVar Z8 rt nt at_ lt_ ct vt) := ⟨ux, uz, uy, ut⟩
                                  clear ux uz uy ut
                                  obtain ⟨_, gx0, gx1, gz0, gz1, gy0, gy1, gt0, gt1⟩ := KS8.out _ (Below.refl _ _)
                                  have HFY : Hid (vt = 0 ∧ vb = gg * vy) := floor_even hfl HGb.out
                                  have HO : Hid (((Nat.gcd vx.natAbs vy.natAbs : Nat) : Int) = 1) := (by show _ = _; have h := gcd_out (g := Nat.gcd va.natAbs vb.natAbs) HVB.out rfl (by rw [HGG.out]; exact HFX.out.2) (by rw [HGG.out]; exact HFY.out.2); rw [h]; rfl)
                                  have HZ1 : Hid (cmpI vz 0 = 0) := cmpI_eq HFX.out.1
                                  have HZ2 : Hid (cmpI vt 0 = 0) := cmpI_eq HFY.out.1
                                  clear hfl
                                  have TK : Tok 0 := ⟨trivial⟩
                                  go_upto_region 22 with fail
                                  go_cut [252] (fun s252 wx => s252 = .bool false ∧ Below Z8.heap.size Z8 wx)
                                  case first => as_aux_lemma =>
                                    -- region22
                                    go_wp2_with (first
                                        | (have _t : Tok 0 := TK; go_at_call 27; refine (num_any 0 _).mono ?_; rintro e xn ⟨rfl, hxn⟩; replace hxn := hxn.symm; subst hxn; clear TK; have TK : Tok 1 := ⟨trivial⟩)
                                        | (have _t : Tok 1 := TK; go_at_call 27; refine (num_any 0 _).mono ?_; rintro e xn ⟨rfl, hxn⟩; replace hxn := hxn.symm; subst hxn; clear TK; have TK : Tok 2 := ⟨trivial⟩)
                                        | (have _t : Tok 2 := TK; go_at_call 27; refine (num_any 0 _).mono ?_; rintro e xn ⟨rfl, hxn⟩; replace hxn := hxn.symm; subst hxn; clear TK; have TK : Tok 3 := ⟨trivial⟩)
                                        | (have _t : Tok 3 := TK; go_at_call 32; refine (bsign_any nz az lz cz (vz) _ (HN8.out.2.1.later (Below.refl _ _)).1 (by have := ((HN8.out.2.1.later (Below.refl _ _))).2; omega) 0 HZ1.out).mono ?_; rintro e rx1 ⟨rfl, hb⟩; have rhB1 : Below Z8.heap.size Z8 rx1 := bnext (Below.refl _ _) hb; have rhs1 := hb; clear hb; clear TK; have TK : Tok 4 := ⟨trivial⟩; clear gx0 gx1 gz0 gz1 gy0 gy1 gt0 gt1; obtain ⟨_, gx0, gx1, gz0, gz1, gy0, gy1, gt0, gt1⟩ := KS8.out _ rhB1)
                                        | (have _t : Tok 4 := TK; go_at_call 32; refine (bsign_any nt at_ lt_ ct (vt) _ (HN8.out.2.2.2.later rhB1).1 (by have := ((HN8.out.2.2.2.later rhB1)).2; omega) 0 HZ2.out).mono ?_; rintro e rx2 ⟨rfl, hb⟩; have rhB2 : Below Z8.heap.size Z8 rx2 := bnext rhB1 hb; have rhs2 := hb; clear hb; clear TK; have TK : Tok 5 := ⟨trivial⟩))
                                    go_meet
                                    exact ⟨rfl, rhB2⟩
                                  case rest => as_aux_lemma =>
                                    -- rest
                                    obtain ⟨rfl, hbZ⟩ := hcut
                                    obtain ⟨Z9, hZ9⟩ : ∃ Z9, Z9 = wc := ⟨_, rfl⟩
                                    subst hZ9
                                    have ux := HU8.out.1.later hbZ
                                    have uy := HU8.out.2.2.1.later hbZ
                                    have HW9 : Hid (Below w.heap.size w Z9) := bnext HW8.out hbZ
                                    clear hbZ KS8 HN8 HU8 HW8 gx0 gx1 gz0 gz1 gy0 gy1 gt0 gt1 TK
                                    have KS9 : Hid (∀ w' : World, Below Z9.heap.size Z9 w' → (Below Z9.heap.size Z9 w' ∧ w'.cell? ⟨rx, 0, none⟩ = some (.bool nx) ∧ w'.cell? ⟨rx, 1, none⟩ = some (.slice ax lx cx) ∧ w'.cell? ⟨ry, 0, none⟩ = some (.bool ny) ∧ w'.cell? ⟨ry, 1, none⟩ = some (.slice ay ly cy))) := fun w' h => ⟨h, (ux.box.later h ux.lt).1, (ux.box.later h ux.lt).2, (uy.box.later h uy.lt).1, (uy.box.later h uy.lt).2⟩
                                    have HN9 : Hid (Num Z9 nx ax lx cx vx 200 ∧ Num Z9 ny ay ly cy vy 200) := ⟨⟨ux.int, hlx⟩, ⟨uy.int, hly⟩⟩
                                    have HU9 : Hid (InVar Z9 rx nx ax lx cx vx ∧ InVar Z9 ry ny ay ly cy vy) := ⟨ux, uy⟩
                                    clear ux uy
                                    obtain ⟨_, gx0, gx1, gy0, gy1⟩ := KS9.out _ (Below.refl _ _)
                                    go_upto_region 24 with fail
                                    go_cut [19, 20] (fun sA sB wx => ∃ rA n5 ao5 l5 c5, sA = .pointer (some ⟨rA, 0, none⟩) ∧ sB = .int .i64 0 ∧ InVar wx rA n5 ao5 l5 c5 1 ∧ l5 ≤ 400 ∧ Below Z9.heap.size Z9 wx)
                                    case first => as_aux_lemma =>
                                      -- region24
                                      go_wp2_with (go_at_call 19; refine (bgcd_any nx ny ax ay lx cx ly cy vx vy _ HN9.out.1.1 HN9.out.2.1 (by omega) (by omega) (tab_later HTB.out HW9.out)).mono ?_; rintro e y5 ⟨n5, ao5, l5, c5, rfl, hs5, ho5, hb5⟩; have hL5 := gcd_lens HN9.out.1 HN9.out.2 ho5; rw [HO.out] at hs5 ho5; have HA5 := InVar.new (Below.refl _ _) hs5 ho5 hb5; clear hs5 ho5 hb5)
                                      go_meet
                                      exact ⟨_, _, _, _, _, rfl, rfl, HA5.out.1, Nat.le_trans hL5 (by decide), HA5.out.2.2⟩
                                    case rest => as_aux_lemma =>
                                      -- region25
                                      obtain ⟨ru, nu, au, lu, cu, rfl, rfl, uu, hlu, hbZ⟩ := hcut
                                      obtain ⟨ZA, hZA⟩ : ∃ ZA, ZA = wc := ⟨_, rfl⟩
                                      subst hZA
                                      have HWA : Hid (Below w.heap.size w ZA) := bnext HW9.out hbZ
                                      clear hbZ KS9 HN9 HU9 HW9 gx0 gx1 gy0 gy1
                                      have KS10 : Hid (∀ w' : World, Below ZA.heap.size ZA w' → (Below ZA.heap.size ZA w' ∧ w'.cell? ⟨ru, 0, none⟩ = some (.bool nu) ∧ w'.cell? ⟨ru, 1, none⟩ = some (.slice au lu cu))) := fun w' h => ⟨h, (uu.box.later h uu.lt).1, (uu.box.later h uu.lt).2⟩
                                      have HN10 : Hid (Num ZA nu au lu cu 1 400) := ⟨uu.int, hlu⟩
                                      have HU10 : Hid (InVar ZA ru nu au lu cu 1) := uu
                                      clear uu
                                      have TK : Tok 0 := ⟨trivial⟩
                                      go_wp2
                                      go_region_held3 (fun w' => (Below ZA.heap.size ZA w' ∧ w'.cell? ⟨ru, 0, none⟩ = some (.bool nu) ∧ w'.cell? ⟨ru, 1, none⟩ = some (.slice au lu cu)))
                                        (first
                                          | exact KS10.out _ (Below.refl _ _).drew
                                          | exact KS10.out _ (by assumption)
                                          | assumption)
                                        (first
                                          | (have _t : Tok 0 := TK; go_at_call 27; refine (num_any 0 _).mono ?_; rintro e xn ⟨rfl, hxn⟩; replace hxn := hxn.symm; subst hxn; clear TK; have TK : Tok 1 := ⟨trivial⟩)
                                          | (have _t : Tok 1 := TK; go_at_call 36; refine (rfrom_any 1 _ (by decide) (by decide)).mono ?_; rintro e rx1 ⟨rm1, rp1, rk1, rd1, rfl, hs, ho, hb⟩; have rH1 : Hid (Num rx1 rm1 rp1 rk1 rd1 1 1) := ⟨ho.int hs, (by rw [ho.row.hlen]; exact mag_len_one (by decide))⟩; clear hs ho; have rhB1 : Below ZA.heap.size ZA rx1 := bnext (Below.refl _ _).drew hb; have rhs1 := hb; clear hb; clear TK; have TK : Tok 2 := ⟨trivial⟩)
                                          | (have _t : Tok 2 := TK; go_at_call 21; refine (eqint_at nu rm1 au rp1 lu cu rk1 rd1 (1) (1) _ (HN10.out.later rhB1).1 rH1.out.1 (by have := ((HN10.out.later rhB1)).2; omega) true (decide_eq_true rfl)).mono ?_; rintro e rx2 ⟨rfl, hb⟩; have rhB2 : Below ZA.heap.size ZA rx2 := bnext rhB1 hb; have rhs2 := hb; clear hb; clear TK; have TK : Tok 3 := ⟨trivial⟩))
                                      go_wp2
                                      go_roundw
                                      case rel => exact ⟨k + 1, by omega, by omega, by go_num, bnext HWA.out rhB2⟩
                                      case measure => simp [intOf]; omega
        · as_aux_lemma =>
          have HH2 : Hid ((decide (30 < (lc : Int)) || decide (30 < (ld : Int))) = true) := hhw
          clear hhw
          go_wp2_with (first
            | (go_at_call 6; have _t := hb1; refine (heavy_any nc nd co do' lc cc ld cd M _ true HH2.out).mono ?_; rintro e w2 ⟨rfl, hb2⟩)
            | (go_at_call 6; rw [← hT.eq]; refine (heavy_any na nb ao bo la ca lb cb N _ false HH.out).mono ?_; rintro e w1 ⟨rfl, hb1⟩; obtain ⟨q0, q1, q2, q3, q4⟩ := hT.p.later hb1 (by omega); clear h0 h1 h2 h3 h4 j0 j1 j2 j3 j4; obtain ⟨j0, j1, j2, j3, j4⟩ := HJ.out.later (bnext hT.below hb1) hbr))
          go_ret
          exact ⟨rfl, bnext hbW (bnext hb1 hb2)⟩
      · as_aux_lemma =>
        have HH : Hid ((decide (30 < (la : Int)) || decide (30 < (lb : Int))) = true) := hhv
        clear hhv
        go_wp2_with (go_at_call 6; rw [← hT.eq]; refine (heavy_any na nb ao bo la ca lb cb N _ true HH.out).mono ?_; rintro e w1 ⟨rfl, hb1⟩)
        go_ret
        exact ⟨rfl, bnext hbW hb1⟩
    · as_aux_lemma =>
      by_cases he : k + 1 < len
      · have h40 : k = 40 := by omega
        subst h40
        go_wp2_with (go_at_call 22; refine (wakes_any _).mono ?_; rintro e w1 ⟨rfl, hb1⟩)
        go_ret
        exact ⟨rfl, bnext hbel hb1⟩
      · go_wp2_with (go_at_call 22; refine (wakes_any _).mono ?_; rintro e w1 ⟨rfl, hb1⟩)
        go_ret
        exact ⟨rfl, bnext hbel hb1⟩
end Go.Proofs.YtafohkcbonlgkaaDoor
