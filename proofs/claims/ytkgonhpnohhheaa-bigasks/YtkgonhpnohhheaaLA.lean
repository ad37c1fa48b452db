/-
  The walk of BigAsks.
-/
import Derived.Test.YtkgonhpnohhheaaLA0
namespace Go.Proofs.Ytkgonhpnohhheaa
open Go.RowKit
set_option linter.unusedVariables false
set_option linter.unusedSimpArgs false

theorem rlen_at (neg : Bool) (ao : Option Addr) (len cap : Nat) (v : Int) (w : World) (hx : IntAt w neg ao len cap v) (hl : len ≤ 4294967296) (c : Int) (hc : rowBits len (dig (mag v.natAbs) (len - 1)) = c) :
    Calls Try.prog 18 #[.agg #[.bool neg, .slice ao len cap]] w fun e w' => e = .returned (.int .i64 c) ∧ Below w.heap.size w w' :=
  (rlen_any neg ao len cap v w hx hl).mono fun e w' h => by rw [hc] at h; exact h
theorem blen_at (neg : Bool) (ao : Option Addr) (len cap : Nat) (v : Int) (w : World) (hx : IntAt w neg ao len cap v) (hl : len ≤ 4294967296) (c : Int) (hc : rowBits len (dig (mag v.natAbs) (len - 1)) = c) :
    Calls Try.prog 12 #[.agg #[.bool neg, .slice ao len cap]] w fun e w' => e = .returned (.int .i64 c) ∧ Below w.heap.size w w' :=
  (blen_any neg ao len cap v w hx hl).mono fun e w' h => by rw [hc] at h; exact h
/-- nothing is alike to nothing -/
theorem eqnil_any (w : World) : Calls Try.prog 13 #[.agg #[.bool false, .slice none 0 0], .agg #[.bool false, .slice none 0 0]] w fun e w' => e = .returned (.bool true) ∧ Below w.heap.size w w' :=
  (eqint_any false false none none 0 0 0 0 [] [] w (RowAt.nilRow w .u64) (RowAt.nilRow w .u64) (by decide)).mono fun e w' h => by simpa using h

set_option maxRecDepth 100000 in
set_option maxHeartbeats 4000000 in
theorem bigAsks_any (lo : Option Addr) (len cap : Nat) (w : World) (hE : ElemsAt w lo len) (hl : len ≤ 9223372036854775807) :
    Calls Try.prog 3 #[.slice lo len cap] w fun e w' => e = .returned (.bool true) ∧ Below w.heap.size w w' := by
  go_enter Try.func3, Try.ntmps3
  go_wp2
  go_loopw [3] (fun i wr => ∃ k : Nat, k ≤ len ∧ k ≤ 40 ∧ i = .int .i64 k ∧ Below w.heap.size w wr) (fun i _ => 40 - (intOf i).toNat)
  case atStart => exact ⟨0, Nat.zero_le _, by omega, rfl, Below.refl _ _⟩
  case round =>
    obtain ⟨k, hk, hk40, rfl, hbel⟩ := hrel
    by_cases hlt : k < len ∧ k < 40
    · obtain ⟨hlt, hlt40⟩ := hlt
      obtain ⟨b, off, rfl, hbw, hel⟩ := hE k hlt
      obtain ⟨na, nb, ao, bo, la, ca, lb, cb, n, x, y, ⟨h0, h1, h2, h3, h4⟩, hx, wx, hy, wy, hn1, hn2⟩ := hel.later hbel hbw
      obtain ⟨W, hT⟩ := In5.mk' wr na nb ao bo la ca lb cb n
      have hsz := hT.size
      have hbW : Below w.heap.size w W := bnext hbel hT.below
      have HX : Hid (RowAt W .u64 ao la ca x ∧ Wd 18446744073709551616 x ∧ RowAt W .u64 bo lb cb y ∧ Wd 18446744073709551616 y) := ⟨hx.later hT.below, wx, hy.later hT.below, wy⟩
      clear hx hy wx wy
      cases hh : (decide (30 < (la : Int)) || decide (30 < (lb : Int)))
      · have h30 : la ≤ 30 ∧ lb ≤ 30 := by
          simp only [Bool.or_eq_false_iff, decide_eq_false_iff_not] at hh; omega
        obtain ⟨hla, hlb⟩ := h30
        have HH : Hid ((decide (30 < (la : Int)) || decide (30 < (lb : Int))) = false) := hh
        have KS : Hid (∀ w' : World, Below W.heap.size W w' → (Below W.heap.size W w' ∧ w'.cell? ⟨wr.heap.size, 0, none⟩ = some (.bool na) ∧ w'.cell? ⟨wr.heap.size, 1, none⟩ = some (.slice ao la ca) ∧ w'.cell? ⟨wr.heap.size, 2, none⟩ = some (.bool nb) ∧ w'.cell? ⟨wr.heap.size, 3, none⟩ = some (.slice bo lb cb) ∧ w'.cell? ⟨wr.heap.size, 4, none⟩ = some (.int .i64 n))) := fun w' h => ⟨h, hT.p.later h (by omega)⟩
        have K1 : Hid (∀ w1 w2 : World, (Below W.heap.size W w1 ∧ w1.cell? ⟨wr.heap.size, 0, none⟩ = some (.bool na) ∧ w1.cell? ⟨wr.heap.size, 1, none⟩ = some (.slice ao la ca) ∧ w1.cell? ⟨wr.heap.size, 2, none⟩ = some (.bool nb) ∧ w1.cell? ⟨wr.heap.size, 3, none⟩ = some (.slice bo lb cb) ∧ w1.cell? ⟨wr.heap.size, 4, none⟩ = some (.int .i64 n)) → Below w1.heap.size w1 w2 → (Below W.heap.size W w2 ∧ w2.cell? ⟨wr.heap.size, 0, none⟩ = some (.bool na) ∧ w2.cell? ⟨wr.heap.size, 1, none⟩ = some (.slice ao la ca) ∧ w2.cell? ⟨wr.heap.size, 2, none⟩ = some (.bool nb) ∧ w2.cell? ⟨wr.heap.size, 3, none⟩ = some (.slice bo lb cb) ∧ w2.cell? ⟨wr.heap.size, 4, none⟩ = some (.int .i64 n))) := fun w1 w2 h hb => KS.out _ (bnext h.1 hb)
        clear hh
        have hcH := heavy_any na nb ao bo la ca lb cb n W false HH.out
        cases hm : mayB na x
        · have HM : Hid ((if mayB na x then 0 else 10 : Int) = 10 ∧ mayB na x = false) := ⟨by rw [hm]; rfl, hm⟩
          clear hm
          go_wp2_with (go_at_call 6; rw [← hT.eq]; refine hcH.mono ?_; rintro e w1 ⟨rfl, hb1⟩; obtain ⟨q0, q1, q2, q3, q4⟩ := hT.p.later hb1 (by omega))
          go_region_held3 (fun w' => Below W.heap.size W w' ∧ w'.cell? ⟨wr.heap.size, 0, none⟩ = some (.bool na) ∧ w'.cell? ⟨wr.heap.size, 1, none⟩ = some (.slice ao la ca) ∧ w'.cell? ⟨wr.heap.size, 2, none⟩ = some (.bool nb) ∧ w'.cell? ⟨wr.heap.size, 3, none⟩ = some (.slice bo lb cb) ∧ w'.cell? ⟨wr.heap.size, 4, none⟩ = some (.int .i64 n))
            (first
              | exact KS.out _ hb1.drew
              | exact K1.out _ _ (by assumption) (by assumption)
              | assumption)
            (first
              | (go_at_call 8; refine (check_at na ao la ca x _ (HX.out.1.later hb1.drew) (by omega) 10 HM.out.1).mono ?_; rintro e w2 ⟨rfl, hb2⟩; have hbA2 : Below W.heap.size W w2 := bnext hb1.drew hb2)
              | (go_at_call 7; refine (num_any 10 _).mono ?_; rintro e w3 ⟨rfl, rfl⟩)
              | (go_at_call 9; refine (one_any na nb ao bo la ca lb cb n x _ (HX.out.1.later hbA2) (by omega) 10 HM.out.1).mono ?_; rintro e w4 ⟨rfl, hb4⟩; have hbA4 : Below W.heap.size W w4 := bnext hbA2 hb4))
          obtain ⟨r0, r1, r2, r3, r4⟩ := hT.p.later hbA4 (by omega)
          clear q0 q1 q2 q3 q4
          go_wp2_with (first
            | (go_at_call 10; refine (bsmall_bad na ao la ca x _ (HX.out.1.later hbA4) (by omega) HM.out.2).mono ?_; rintro e w5 ⟨rfl, hb5⟩; have hbA5 : Below W.heap.size W w5 := bnext hbA4 hb5; clear r0 r1 r2 r3 r4; obtain ⟨r0, r1, r2, r3, r4⟩ := hT.p.later hbA5 (by omega))
            | (go_at_call 9; refine (one_any na nb ao bo la ca lb cb n x _ (HX.out.1.later hbA5) (by omega) 10 HM.out.1).mono ?_; rintro e w6 ⟨rfl, hb6⟩; have hbA6 : Below W.heap.size W w6 := bnext hbA5 hb6; clear r0 r1 r2 r3 r4; obtain ⟨r0, r1, r2, r3, r4⟩ := hT.p.later hbA6 (by omega))
            | (go_at_call 11; refine (bsign_bad na ao la ca x _ (HX.out.1.later hbA6) (by omega) HM.out.2).mono ?_; rintro e w7 ⟨rfl, hb7⟩; have hbA7 : Below W.heap.size W w7 := bnext hbA6 hb7; clear r0 r1 r2 r3 r4; obtain ⟨r0, r1, r2, r3, r4⟩ := hT.p.later hbA7 (by omega))
            | (go_at_call 12; refine (blen_bad na ao la ca x _ (HX.out.1.later hbA7) (by omega) HM.out.2).mono ?_; rintro e w8 ⟨rfl, hb8⟩; have hbA8 : Below W.heap.size W w8 := bnext hbA7 hb8; clear r0 r1 r2 r3 r4; obtain ⟨r0, r1, r2, r3, r4⟩ := hT.p.later hbA8 (by omega))
            | (go_at_call 14; refine (bneg_bad na ao la ca x _ (HX.out.1.later hbA8) (by omega) HM.out.2).mono ?_; rintro e w9 ⟨rfl, hb9⟩; have hbA9 : Below W.heap.size W w9 := bnext hbA8 hb9)
            | (go_at_call 15; refine (babs_bad na ao la ca x _ (HX.out.1.later hbA10) (by omega) HM.out.2).mono ?_; rintro e w11 ⟨rfl, hb11⟩; have hbA11 : Below W.heap.size W w11 := bnext hbA10 hb11)
            | (go_at_call 13; have _t := hbA11; refine (eqnil_any _).mono ?_; rintro e w12 ⟨rfl, hb12⟩; have hbA12 : Below W.heap.size W w12 := bnext hbA11 hb12)
            | (go_at_call 13; refine (eqnil_any _).mono ?_; rintro e w10 ⟨rfl, hb10⟩; have hbA10 : Below W.heap.size W w10 := bnext hbA9 hb10; clear r0 r1 r2 r3 r4; obtain ⟨r0, r1, r2, r3, r4⟩ := hT.p.later hbA10 (by omega)))
          go_roundw
          case rel => exact ⟨k + 1, by omega, by omega, by go_num, bnext hbW hbA12⟩
          case measure => simp [intOf]; omega
        · have HM : Hid ((if mayB na x then 0 else 10 : Int) = 0) := by show _ = _; rw [hm]; rfl
          have HM' : Hid (mayB na x = true) := hm
          obtain ⟨v, hIv, hxv⟩ := int_of_may HX.out.1 HX.out.2.1 hm
          have HI : Hid (IntAt W na ao la ca v ∧ x = mag v.natAbs) := ⟨hIv, hxv⟩
          clear hm hIv hxv
          go_wp2_with (go_at_call 6; rw [← hT.eq]; refine hcH.mono ?_; rintro e w1 ⟨rfl, hb1⟩)
          go_region_held3 (fun w' => Below W.heap.size W w' ∧ w'.cell? ⟨wr.heap.size, 0, none⟩ = some (.bool na) ∧ w'.cell? ⟨wr.heap.size, 1, none⟩ = some (.slice ao la ca) ∧ w'.cell? ⟨wr.heap.size, 2, none⟩ = some (.bool nb) ∧ w'.cell? ⟨wr.heap.size, 3, none⟩ = some (.slice bo lb cb) ∧ w'.cell? ⟨wr.heap.size, 4, none⟩ = some (.int .i64 n))
            (first
              | exact KS.out _ hb1.drew
              | exact K1.out _ _ (by assumption) (by assumption)
              | assumption)
            (first
              | (go_at_call 8; refine (check_at na ao la ca x _ (HX.out.1.later hb1.drew) (by omega) 0 HM.out).mono ?_; rintro e w2 ⟨rfl, hb2⟩; have hbA2 : Below W.heap.size W w2 := bnext hb1.drew hb2)
              | (go_at_call 7; refine (num_any 0 _).mono ?_; rintro e w3 ⟨rfl, rfl⟩)
              | (go_at_call 9; refine (one_any na nb ao bo la ca lb cb n x _ (HX.out.1.later hbA2) (by omega) 0 HM.out).mono ?_; rintro e w4 ⟨rfl, hb4⟩; have hbA4 : Below W.heap.size W w4 := bnext hbA2 hb4))
          obtain ⟨r0, r1, r2, r3, r4⟩ := hT.p.later hbA4 (by omega)
          obtain ⟨sv, hsv⟩ : ∃ sv, smallI v = sv := ⟨_, rfl⟩
          obtain ⟨sb, hsb⟩ : ∃ sb, smallB v = sb := ⟨_, rfl⟩
          have HSm : Hid (smallI v = sv ∧ smallB v = sb) := ⟨hsv, hsb⟩
          clear hsv hsb
          go_wp2_with (first
            | (go_at_call 10; refine (bsmall_any na ao la ca v _ (HI.out.1.later hbA4) (by omega)).mono ?_; rintro e w5 ⟨rfl, hb5⟩; rw [HSm.out.1, HSm.out.2]; have hbA5 : Below W.heap.size W w5 := bnext hbA4 hb5; clear r0 r1 r2 r3 r4; obtain ⟨r0, r1, r2, r3, r4⟩ := hT.p.later hbA5 (by omega))
            | (go_at_call 9; refine (one_any na nb ao bo la ca lb cb n x _ (HX.out.1.later hbA5) (by omega) 0 HM.out).mono ?_; rintro e w6 ⟨rfl, hb6⟩; have hbA6 : Below W.heap.size W w6 := bnext hbA5 hb6; clear r0 r1 r2 r3 r4; obtain ⟨r0, r1, r2, r3, r4⟩ := hT.p.later hbA6 (by omega))
            | (go_at_call 16; refine (rsmall_any na ao la ca v _ (HI.out.1.later hbA6) (by omega)).mono ?_; rintro e w7 ⟨rfl, hb7⟩; rw [HSm.out.1, HSm.out.2]; have hbA7 : Below W.heap.size W w7 := bnext hbA6 hb7; clear r0 r1 r2 r3 r4))
          obtain ⟨sg, hsg⟩ : ∃ sg, cmpI v 0 = sg := ⟨_, rfl⟩
          obtain ⟨bl, hbl⟩ : ∃ bl, rowBits la (dig (mag v.natAbs) (la - 1)) = bl := ⟨_, rfl⟩
          have HSg : Hid (cmpI v 0 = sg ∧ rowBits la (dig (mag v.natAbs) (la - 1)) = bl) := ⟨hsg, hbl⟩
          clear hsg hbl
          go_region_held3 (fun w' => Below W.heap.size W w' ∧ w'.cell? ⟨wr.heap.size, 0, none⟩ = some (.bool na) ∧ w'.cell? ⟨wr.heap.size, 1, none⟩ = some (.slice ao la ca) ∧ w'.cell? ⟨wr.heap.size, 2, none⟩ = some (.bool nb) ∧ w'.cell? ⟨wr.heap.size, 3, none⟩ = some (.slice bo lb cb) ∧ w'.cell? ⟨wr.heap.size, 4, none⟩ = some (.int .i64 n))
            (first
              | exact KS.out _ hbA7.drew
              | exact K1.out _ _ (by assumption) (by assumption)
              | assumption)
            (first
              | (go_at_call 11; refine (bsign_any na ao la ca v _ (HI.out.1.later (And.left (by assumption))) (by omega) sg HSg.out.1).mono ?_; rintro e w11 ⟨rfl, hb11⟩)
              | (go_at_call 17; refine (rsign_any na ao la ca v _ (HI.out.1.later (And.left (by assumption))) (by omega) sg HSg.out.1).mono ?_; rintro e w12 ⟨rfl, hb12⟩)
              | (go_at_call 12; refine (blen_at na ao la ca v _ (HI.out.1.later (And.left (by assumption))) (by omega) bl HSg.out.2).mono ?_; rintro e w13 ⟨rfl, hb13⟩)
              | (go_at_call 18; refine (rlen_at na ao la ca v _ (HI.out.1.later (And.left (by assumption))) (by omega) bl HSg.out.2).mono ?_; rintro e w14 ⟨rfl, hb14⟩)
              | (go_at_call 14; refine (bneg_any na ao la ca v _ (HI.out.1.later (And.left (by assumption))) (by omega)).mono ?_; rintro e w15 ⟨n15, ao15, l15, c15, rfl, hs15, ho15, hb15⟩; have H15 : Hid (IntAt w15 n15 ao15 l15 c15 (-v) ∧ l15 ≤ 30) := ⟨ho15.int hs15, by (rw [ho15.row.hlen, Int.natAbs_neg, ← HI.out.1.row.hlen]; exact hla)⟩; clear hs15 ho15)
              | (go_at_call 19; refine (rneg_any na ao la ca v _ (HI.out.1.later (And.left (by assumption))) (by omega)).mono ?_; rintro e w16 ⟨n16, ao16, l16, c16, rfl, hi16, hb16⟩; have H16 : Hid (IntAt w16 n16 ao16 l16 c16 (-v)) := hi16; clear hi16)
              | (go_at_call 15; refine (babs_any na ao la ca v _ (HI.out.1.later (And.left (by assumption))) (by omega)).mono ?_; rintro e w18 ⟨n18, ao18, l18, c18, rfl, hs18, ho18, hb18⟩; have H18 : Hid (IntAt w18 n18 ao18 l18 c18 (v.natAbs : Int) ∧ l18 ≤ 30) := ⟨ho18.int hs18, by (rw [ho18.row.hlen, Int.natAbs_natCast, ← HI.out.1.row.hlen]; exact hla)⟩; clear hs18 ho18)
              | (go_at_call 20; refine (rabs_any na ao la ca v _ (HI.out.1.later (And.left (by assumption))) (by omega)).mono ?_; rintro e w19 ⟨n19, ao19, l19, c19, rfl, hi19, hb19⟩; have H19 : Hid (IntAt w19 n19 ao19 l19 c19 (v.natAbs : Int)) := hi19; clear hi19)
              | (go_at_call 21; refine (from_any n _ hn1 hn2).mono ?_; rintro e w21 ⟨n21, ao21, l21, c21, rfl, hs21, ho21, hb21⟩; have H21 : Hid (IntAt w21 n21 ao21 l21 c21 n ∧ l21 ≤ 30) := ⟨ho21.int hs21, by (rw [ho21.row.hlen]; have := mag_len_one (n := n.natAbs) (by omega); omega)⟩; clear hs21 ho21)
              | (go_at_call 22; refine (rfrom_any n _ hn1 hn2).mono ?_; rintro e w22 ⟨n22, ao22, l22, c22, rfl, hs22, ho22, hb22⟩; have H22 : Hid (IntAt w22 n22 ao22 l22 c22 n) := ho22.int hs22; clear hs22 ho22)
              | (go_at_call 13; have _t := H22; refine (eqint_at n21 n22 ao21 ao22 l21 c21 l22 c22 n n _ (H21.out.1.later hb22) H22.out (by have := H21.out.2; omega) true (decide_eq_true rfl)).mono ?_; rintro e w23 ⟨rfl, hb23⟩; have hbA23 : Below W.heap.size W w23 := bnext (And.left (by assumption)) hb23)
              | (go_at_call 13; have _t := H19; refine (eqint_at n18 n19 ao18 ao19 l18 c18 l19 c19 (v.natAbs : Int) (v.natAbs : Int) _ (H18.out.1.later hb19) H19.out (by have := H18.out.2; omega) true (decide_eq_true rfl)).mono ?_; rintro e w20 ⟨rfl, hb20⟩)
              | (go_at_call 13; refine (eqint_at n15 n16 ao15 ao16 l15 c15 l16 c16 (-v) (-v) _ (H15.out.1.later hb16) H16.out (by have := H15.out.2; omega) true (decide_eq_true rfl)).mono ?_; rintro e w17 ⟨rfl, hb17⟩))
          obtain ⟨r0, r1, r2, r3, r4⟩ := hT.p.later hbA23 (by omega)
          clear H15 H16 H18 H19 H21 H22 hb11 hb12 hb13 hb14 hb15 hb16 hb17 hb18 hb19 hb20 hb21 hb22 hb23 hb1 hb2 hb4 hb5 hb6 hb7 hbA2 hbA4 hbA5 hbA6 hbA7 HSm HSg KS K1
          cases hm2 : mayB nb y
          · have HM2 : Hid ((if mayB na x && mayB nb y then 0 else 10 : Int) = 10 ∧ (mayB na x && mayB nb y) = false) := by
              have : (mayB na x && mayB nb y) = false := by rw [hm2, Bool.and_false]
              exact ⟨by rw [this]; rfl, this⟩
            clear hm2
            go_wp2_with (first
              | (go_at_call 23; refine (two_any na nb ao bo la ca lb cb n x y _ (HX.out.1.later hbA23) (HX.out.2.2.1.later hbA23) (by omega) (by omega) 10 HM2.out.1).mono ?_; rintro e w24 ⟨rfl, hb24⟩; have hbA24 : Below W.heap.size W w24 := bnext hbA23 hb24; clear r0 r1 r2 r3 r4; obtain ⟨r0, r1, r2, r3, r4⟩ := hT.p.later hbA24 (by omega))
              | (go_at_call 25; refine (bcmp_bad na nb ao bo la ca lb cb x y _ (HX.out.1.later hbA24) (HX.out.2.2.1.later hbA24) (by omega) (by omega) HM2.out.2).mono ?_; rintro e w26 ⟨rfl, hb26⟩; have hbA26 : Below W.heap.size W w26 := bnext hbA24 hb26))
            go_roundw
            case rel => exact ⟨k + 1, by omega, by omega, by go_num, bnext hbW hbA26⟩
            case measure => simp [intOf]; omega
          · have HM2 : Hid ((if mayB na x && mayB nb y then 0 else 10 : Int) = 0) := by
              show _ = _; rw [HM'.out, hm2]; rfl
            obtain ⟨u, hIu, _⟩ := int_of_may HX.out.2.2.1 HX.out.2.2.2 hm2
            have HU : Hid (IntAt W nb bo lb cb u) := hIu
            obtain ⟨cc, hcc⟩ : ∃ cc, cmpI v u = cc := ⟨_, rfl⟩
            have HCC : Hid (cmpI v u = cc) := hcc
            clear hm2 hIu hcc
            go_wp2_with (first
              | (go_at_call 23; refine (two_any na nb ao bo la ca lb cb n x y _ (HX.out.1.later hbA23) (HX.out.2.2.1.later hbA23) (by omega) (by omega) 0 HM2.out).mono ?_; rintro e w24 ⟨rfl, hb24⟩; have hbA24 : Below W.heap.size W w24 := bnext hbA23 hb24; clear r0 r1 r2 r3 r4; obtain ⟨r0, r1, r2, r3, r4⟩ := hT.p.later hbA24 (by omega))
              | (go_at_call 24; refine (rcmp_any na nb ao bo la ca lb cb v u _ (HI.out.1.later hbA24) (HU.out.later hbA24) (by omega) (by omega) cc HCC.out).mono ?_; rintro e w25 ⟨rfl, hb25⟩; have hbA25 : Below W.heap.size W w25 := bnext hbA24 hb25; clear r0 r1 r2 r3 r4; obtain ⟨r0, r1, r2, r3, r4⟩ := hT.p.later hbA25 (by omega))
              | (go_at_call 25; refine (bcmp_any na nb ao bo la ca lb cb v u _ (HI.out.1.later hbA25) (HU.out.later hbA25) (by omega) (by omega) cc HCC.out).mono ?_; rintro e w26 ⟨rfl, hb26⟩; have hbA26 : Below W.heap.size W w26 := bnext hbA25 hb26))
            go_roundw
            case rel => exact ⟨k + 1, by omega, by omega, by go_num, bnext hbW hbA26⟩
            case measure => simp [intOf]; omega
      · have HH : Hid ((decide (30 < (la : Int)) || decide (30 < (lb : Int))) = true) := hh
        have hcH := heavy_any na nb ao bo la ca lb cb n W true HH.out
        clear hh
        go_wp2_with (go_at_call 6; rw [← hT.eq]; refine hcH.mono ?_; rintro e w1 ⟨rfl, hb1⟩)
        go_ret
        exact ⟨rfl, bnext hbW hb1⟩
    · have hend : ¬ k < len ∨ k = 40 := by omega
      rcases hend with he | he
      · go_wp2_with (go_at_call 26; refine (wakes_any _).mono ?_; rintro e w1 ⟨rfl, hb1⟩)
        go_ret
        exact ⟨rfl, bnext hbel hb1⟩
      · subst he
        by_cases hq : 40 < len
        · go_wp2_with (go_at_call 26; refine (wakes_any _).mono ?_; rintro e w1 ⟨rfl, hb1⟩)
          go_ret
          exact ⟨rfl, bnext hbel hb1⟩
        · go_wp2_with (go_at_call 26; refine (wakes_any _).mono ?_; rintro e w1 ⟨rfl, hb1⟩)
          go_ret
          exact ⟨rfl, bnext hbel hb1⟩
end Go.Proofs.Ytkgonhpnohhheaa
