/-
  The walk of BigLong.
-/
import Derived.Test.YtegggnjghnbdbaaLD0
import Derived.Deep.DeepCutAuto
namespace Go.Proofs.Ytegggnjghnbdbaa
open Go.RowKit
set_option linter.unusedVariables false
set_option linter.unusedSimpArgs false

set_option maxRecDepth 100000 in
set_option maxHeartbeats 20000000 in
theorem bigLong_any (lo : Option Addr) (len cap : Nat) (w : World) (hE : ElemsAt w lo len) (hl : len ≤ 9223372036854775807) :
    Calls Try.prog 3 #[.slice lo len cap] w fun e w' => e = .returned (.bool true) ∧ Below w.heap.size w w' := by
  go_enter Try.func3, Try.ntmps3
  go_wp2
  go_loopw [3] (fun i wr => ∃ k : Nat, k ≤ len ∧ k ≤ 3 ∧ i = .int .i64 k ∧ Below w.heap.size w wr) (fun i _ => 3 - (intOf i).toNat)
  case atStart => exact ⟨0, Nat.zero_le _, by omega, rfl, Below.refl _ _⟩
  case round =>
    obtain ⟨k, hk, hk3, rfl, hbel⟩ := hrel
    by_cases hlt : k < len ∧ k < 3
    · obtain ⟨hlt, hlt3⟩ := hlt
      obtain ⟨b, off, rfl, hbw, hel⟩ := hE k hlt
      obtain ⟨na, nb, ao, bo, la, ca, lb, cb, N, x, y, ⟨h0, h1, h2, h3, h4⟩, hx, wx, hy, wy, hn1, hn2⟩ := hel.later hbel hbw
      obtain ⟨W, hT⟩ := In5.mk' wr na nb ao bo la ca lb cb N
      have hsz := hT.size
      have hbW : Below w.heap.size w W := bnext hbel hT.below
      have hwW := hbW.size
      have HX : Hid (RowAt W .u64 ao la ca x ∧ Wd 18446744073709551616 x ∧ RowAt W .u64 bo lb cb y ∧ Wd 18446744073709551616 y) := ⟨hx.later hT.below, wx, hy.later hT.below, wy⟩
      clear hx hy wx wy
      cases hhv : (decide (30 < (la : Int)) || decide (30 < (lb : Int)))
      · have HH : Hid ((decide (30 < (la : Int)) || decide (30 < (lb : Int))) = false) := hhv
        have hla : la ≤ 30 := by simp at hhv; omega
        have hlb : lb ≤ 30 := by simp at hhv; omega
        clear hhv
        cases hm : mayB na x
        · as_aux_lemma =>
          have HM : Hid (mayB na x = false) := hm
          clear hm
          go_wp2_with (first
            | (go_at_call 5; rw [← hT.eq]; refine (heavy_any na nb ao bo la ca lb cb N _ false HH.out).mono ?_; rintro e w1 ⟨rfl, hb1⟩; obtain ⟨q0, q1, q2, q3, q4⟩ := hT.p.later hb1 (by omega))
            | (go_at_call 6; refine (may_at na ao la ca x _ (HX.out.1.later hb1) (by omega) false HM.out).mono ?_; rintro e w2 ⟨rfl, hb2⟩))
          go_roundw
          case rel => exact ⟨k + 1, by omega, by omega, by go_num, bnext hbW (bnext hb1 hb2)⟩
          case measure => simp [intOf]; omega
        · have HM : Hid (mayB na x = true) := hm
          obtain ⟨v, hIv, hxv⟩ := int_of_may HX.out.1 HX.out.2.1 hm
          clear hm hxv
          cases hm2 : mayB nb y
          · as_aux_lemma =>
            have HM2 : Hid (mayB nb y = false) := hm2
            clear hm2 hIv
            go_wp2_with (first
              | (go_at_call 5; rw [← hT.eq]; refine (heavy_any na nb ao bo la ca lb cb N _ false HH.out).mono ?_; rintro e w1 ⟨rfl, hb1⟩; obtain ⟨q0, q1, q2, q3, q4⟩ := hT.p.later hb1 (by omega))
              | (go_at_call 6; have _t := hb2; refine (may_at nb bo lb cb y _ (HX.out.2.2.1.later (bnext hb1 hb2)) (by omega) false HM2.out).mono ?_; rintro e w3 ⟨rfl, hb3⟩)
              | (go_at_call 6; refine (may_at na ao la ca x _ (HX.out.1.later hb1) (by omega) true HM.out).mono ?_; rintro e w2 ⟨rfl, hb2⟩; clear q0 q1 q2 q3 q4; obtain ⟨q0, q1, q2, q3, q4⟩ := hT.p.later (bnext hb1 hb2) (by omega)))
            go_roundw
            case rel => exact ⟨k + 1, by omega, by omega, by go_num, bnext hbW (bnext hb1 (bnext hb2 hb3))⟩
            case measure => simp [intOf]; omega
          · have HM2 : Hid (mayB nb y = true) := hm2
            obtain ⟨u, hIu, hyu⟩ := int_of_may HX.out.2.2.1 HX.out.2.2.2 hm2
            have HI : Hid (IntAt W na ao la ca v ∧ IntAt W nb bo lb cb u) := ⟨hIv, hIu⟩
            clear hm2 hyu hIv hIu
            go_wp2_with (first
              | (go_at_call 5; rw [← hT.eq]; refine (heavy_any na nb ao bo la ca lb cb N _ false HH.out).mono ?_; rintro e w1 ⟨rfl, hb1⟩; obtain ⟨q0, q1, q2, q3, q4⟩ := hT.p.later hb1 (by omega))
              | (go_at_call 6; have _t := hb2; refine (may_at nb bo lb cb y _ (HX.out.2.2.1.later (bnext hb1 hb2)) (by omega) true HM2.out).mono ?_; rintro e w3 ⟨rfl, hb3⟩; have HB3 : Hid (Below W.heap.size W w3) := bnext (bnext hb1 hb2) hb3; clear hb1 hb2 hb3 q0 q1 q2 q3 q4; obtain ⟨q0, q1, q2, q3, q4⟩ := hT.p.later HB3.out (by omega))
              | (go_at_call 6; refine (may_at na ao la ca x _ (HX.out.1.later hb1) (by omega) true HM.out).mono ?_; rintro e w2 ⟨rfl, hb2⟩; clear q0 q1 q2 q3 q4; obtain ⟨q0, q1, q2, q3, q4⟩ := hT.p.later (bnext hb1 hb2) (by omega))
              | (go_at_call 7; refine (within_any N 200 w3 hn1 hn2 (by decide) (by decide)).mono ?_; rintro e w5 ⟨n, hn200, rfl, hw5⟩; replace hw5 := hw5.symm; subst hw5; obtain ⟨nh, hnh⟩ : ∃ nh : Nat, (n : Int).tdiv 2 = (nh : Int) := ⟨n / 2, by rw [Int.tdiv_eq_ediv_of_nonneg (by omega)]; omega⟩; have hnh2 : nh ≤ 200 := (by rw [Int.tdiv_eq_ediv_of_nonneg (by omega)] at hnh; omega))
              | (go_at_call 8; have _t := HA1; refine (longer_any nb bo lb cb nh u _ (HI.out.2.later HA1.out.2.1) (by omega) (by omega)).mono ?_; rintro e y2 ⟨vb, ⟨n2, ao2, l2, c2, rfl, hs2, ho2, hb2⟩, hlv2⟩; have HA2 := InVar.new (v := vb) HA1.out.2.1 hs2 ho2 hb2; have hl2 : l2 ≤ 300 := (by rw [ho2.row.hlen]; omega); clear hs2 ho2 hb2 hlv2 q0 q1 q2 q3 q4; obtain ⟨g0, g1⟩ := (HA1.out.1.later HA2.out.2.2).box; obtain ⟨g2, g3⟩ := HA2.out.1.box)
              | (go_at_call 8; refine (longer_any na ao la ca n v w3 (HI.out.1.later HB3.out) (by omega) (by omega)).mono ?_; rintro e y1 ⟨va, ⟨n1, ao1, l1, c1, rfl, hs1, ho1, hb1⟩, hlv1⟩; have HA1 := InVar.new (v := va) HB3.out hs1 ho1 hb1; have hl1 : l1 ≤ 300 := (by rw [ho1.row.hlen]; omega); clear hs1 ho1 hb1 hlv1 q0 q1 q2 q3 q4; obtain ⟨q0, q1, q2, q3, q4⟩ := hT.p.later HA1.out.2.1 (by omega))
              | (go_at_call 9; refine (ladd_small n1 n2 ao1 ao2 l1 c1 l2 c2 va vb _ (HA1.out.1.later HA2.out.2.2).int HA2.out.1.int (by omega) (by omega)).mono ?_; rintro e y3 ⟨n3, ao3, l3, c3, rfl, hs3, ho3, hb3⟩; have HA3 := InVar.new (v := va + vb) HA2.out.2.1 hs3 ho3 hb3; have hl3 : l3 ≤ 601 := (num_add (w := (y2.alloc (.cells #[.bool n2, .slice ao2 l2 c2] 26))) hs3 ho3 ⟨(HA1.out.1.later HA2.out.2.2).int, hl1⟩ ⟨HA2.out.1.int, hl2⟩).2; clear hs3 ho3 hb3 g0 g1 g2 g3; obtain ⟨g0, g1⟩ := ((HA1.out.1.later HA2.out.2.2).later HA3.out.2.2).box; obtain ⟨g2, g3⟩ := (HA2.out.1.later HA3.out.2.2).box)
              | (go_at_call 10; refine (lmul_any n1 n2 ao1 ao2 l1 c1 l2 c2 va vb _ ((HA1.out.1.later HA2.out.2.2).later HA3.out.2.2).int (HA2.out.1.later HA3.out.2.2).int (by omega) (by omega)).mono ?_; rintro e y4 ⟨n4, ao4, l4, c4, rfl, hs4, ho4, hb4⟩; have HA4 := InVar.new (v := va * vb) HA3.out.2.1 hs4 ho4 hb4; have hl4 : l4 ≤ 600 := (num_mul (w := (y3.alloc (.cells #[.bool n3, .slice ao3 l3 c3] 26))) hs4 ho4 ⟨((HA1.out.1.later HA2.out.2.2).later HA3.out.2.2).int, hl1⟩ ⟨(HA2.out.1.later HA3.out.2.2).int, hl2⟩).2; clear hs4 ho4 hb4 g0 g1 g2 g3))
            have hZ0 : InVar (y4.alloc (.cells #[.bool n4, .slice ao4 l4 c4] 26)) y1.heap.size n1 ao1 l1 c1 va ∧ InVar (y4.alloc (.cells #[.bool n4, .slice ao4 l4 c4] 26)) y2.heap.size n2 ao2 l2 c2 vb ∧ InVar (y4.alloc (.cells #[.bool n4, .slice ao4 l4 c4] 26)) y3.heap.size n3 ao3 l3 c3 (va + vb) ∧ InVar (y4.alloc (.cells #[.bool n4, .slice ao4 l4 c4] 26)) y4.heap.size n4 ao4 l4 c4 (va * vb) ∧ Below W.heap.size W (y4.alloc (.cells #[.bool n4, .slice ao4 l4 c4] 26)) := ⟨((HA1.out.1.later HA2.out.2.2).later HA3.out.2.2).later HA4.out.2.2, (HA2.out.1.later HA3.out.2.2).later HA4.out.2.2, HA3.out.1.later HA4.out.2.2, HA4.out.1, HA4.out.2.1⟩
            clear HA1 HA2 HA3 HA4 HB3
            revert hZ0
            generalize (y4.alloc (.cells #[.bool n4, .slice ao4 l4 c4] 26)) = Z
            rintro ⟨v1, v2, v3, v4, v8⟩
            have hZW := v8.size
            have KS : Hid (∀ w' : World, Below Z.heap.size Z w' → (Below Z.heap.size Z w' ∧ w'.cell? ⟨y1.heap.size, 0, none⟩ = some (.bool n1) ∧ w'.cell? ⟨y1.heap.size, 1, none⟩ = some (.slice ao1 l1 c1) ∧ w'.cell? ⟨y2.heap.size, 0, none⟩ = some (.bool n2) ∧ w'.cell? ⟨y2.heap.size, 1, none⟩ = some (.slice ao2 l2 c2) ∧ w'.cell? ⟨y3.heap.size, 0, none⟩ = some (.bool n3) ∧ w'.cell? ⟨y3.heap.size, 1, none⟩ = some (.slice ao3 l3 c3) ∧ w'.cell? ⟨y4.heap.size, 0, none⟩ = some (.bool n4) ∧ w'.cell? ⟨y4.heap.size, 1, none⟩ = some (.slice ao4 l4 c4))) := fun w' h => ⟨h, (v1.box.later h v1.lt).1, (v1.box.later h v1.lt).2, (v2.box.later h v2.lt).1, (v2.box.later h v2.lt).2, (v3.box.later h v3.lt).1, (v3.box.later h v3.lt).2, (v4.box.later h v4.lt).1, (v4.box.later h v4.lt).2⟩
            have HZ : Hid (Num Z n1 ao1 l1 c1 va 300 ∧ Num Z n2 ao2 l2 c2 vb 300 ∧ Num Z n3 ao3 l3 c3 (va + vb) 601 ∧ Num Z n4 ao4 l4 c4 (va * vb) 600) := ⟨⟨v1.int, hl1⟩, ⟨v2.int, hl2⟩, ⟨v3.int, hl3⟩, ⟨v4.int, hl4⟩⟩
            have HV : Hid (InVar Z y1.heap.size n1 ao1 l1 c1 va ∧ InVar Z y2.heap.size n2 ao2 l2 c2 vb ∧ InVar Z y4.heap.size n4 ao4 l4 c4 (va * vb) ∧ Below W.heap.size W Z) := ⟨v1, v2, v4, v8⟩
            have HQ1 : Hid (decide ((va + vb) * (va + vb) = va * va + vb * vb + (va * vb + va * vb)) = true) := decide_eq_true (by grind)
            clear v1 v2 v3 v4
            go_cut [77] (fun s77 wx => s77 = .bool false ∧ Below Z.heap.size Z wx)
            case first => as_aux_lemma =>
              go_region_held3 (fun w' => (Below Z.heap.size Z w' ∧ w'.cell? ⟨y1.heap.size, 0, none⟩ = some (.bool n1) ∧ w'.cell? ⟨y1.heap.size, 1, none⟩ = some (.slice ao1 l1 c1) ∧ w'.cell? ⟨y2.heap.size, 0, none⟩ = some (.bool n2) ∧ w'.cell? ⟨y2.heap.size, 1, none⟩ = some (.slice ao2 l2 c2) ∧ w'.cell? ⟨y3.heap.size, 0, none⟩ = some (.bool n3) ∧ w'.cell? ⟨y3.heap.size, 1, none⟩ = some (.slice ao3 l3 c3) ∧ w'.cell? ⟨y4.heap.size, 0, none⟩ = some (.bool n4) ∧ w'.cell? ⟨y4.heap.size, 1, none⟩ = some (.slice ao4 l4 c4)))
                (first
                  | exact KS.out _ (Below.refl _ _).drew
                  | exact KS.out _ (by assumption)
                  | assumption)
                (first
                  | (go_at_call 9; have _t := HX5; refine (ladd_small m4 m5 p4 p5 k4 d4 k5 d5 (va * va + vb * vb) (va * vb + va * vb) _ (HX4.out.later hbs5).1 (HX5.out).1 (by have := (HX4.out.later hbs5).2; omega) (by have := (HX5.out).2; omega)).mono ?_; rintro e x6 ⟨m6, p6, k6, d6, rfl, hs, ho, hb⟩; have HX6 : Hid (Num x6 m6 p6 k6 d6 (va * va + vb * vb + (va * vb + va * vb)) 6000) := (by have h := num_add hs ho (HX4.out.later hbs5) (HX5.out); exact ⟨h.1, Nat.le_trans h.2 (by decide)⟩); have hbX6 : Below Z.heap.size Z x6 := bnext hbX5 hb; have hbs6 := hb; clear hs ho)
                  | (go_at_call 9; have _t := HX4; refine (ladd_small n4 n4 ao4 ao4 l4 c4 l4 c4 (va * vb) (va * vb) _ (HZ.out.2.2.2.later hbX4).1 (HZ.out.2.2.2.later hbX4).1 (by have := (HZ.out.2.2.2.later hbX4).2; omega) (by have := (HZ.out.2.2.2.later hbX4).2; omega)).mono ?_; rintro e x5 ⟨m5, p5, k5, d5, rfl, hs, ho, hb⟩; have HX5 : Hid (Num x5 m5 p5 k5 d5 (va * vb + (va * vb)) 2000) := (by have h := num_add hs ho (HZ.out.2.2.2.later hbX4) (HZ.out.2.2.2.later hbX4); exact ⟨h.1, Nat.le_trans h.2 (by decide)⟩); have hbX5 : Below Z.heap.size Z x5 := bnext hbX4 hb; have hbs5 := hb; clear hs ho)
                  | (go_at_call 9; have _t := HX3; refine (ladd_small m2 m3 p2 p3 k2 d2 k3 d3 (va * va) (vb * vb) _ (HX2.out.later hbs3).1 (HX3.out).1 (by have := (HX2.out.later hbs3).2; omega) (by have := (HX3.out).2; omega)).mono ?_; rintro e x4 ⟨m4, p4, k4, d4, rfl, hs, ho, hb⟩; have HX4 : Hid (Num x4 m4 p4 k4 d4 (va * va + (vb * vb)) 3000) := (by have h := num_add hs ho (HX2.out.later hbs3) (HX3.out); exact ⟨h.1, Nat.le_trans h.2 (by decide)⟩); have hbX4 : Below Z.heap.size Z x4 := bnext hbX3 hb; have hbs4 := hb; clear hs ho)
                  | (go_at_call 10; have _t := hbX2; refine (lmul_any n2 n2 ao2 ao2 l2 c2 l2 c2 vb vb _ (HZ.out.2.1.later hbX2).1 (HZ.out.2.1.later hbX2).1 (by omega) (by omega)).mono ?_; rintro e x3 ⟨m3, p3, k3, d3, rfl, hs, ho, hb⟩; have HX3 : Hid (Num x3 m3 p3 k3 d3 (vb * vb) 1202) := (by have h := num_mul hs ho HZ.out.2.1 HZ.out.2.1; exact ⟨h.1, Nat.le_trans h.2 (by decide)⟩); have hbX3 : Below Z.heap.size Z x3 := bnext hbX2 hb; have hbs3 := hb; clear hs ho)
                  | (go_at_call 10; have _t := hbX1; refine (lmul_any n1 n1 ao1 ao1 l1 c1 l1 c1 va va _ (HZ.out.1.later hbX1).1 (HZ.out.1.later hbX1).1 (by omega) (by omega)).mono ?_; rintro e x2 ⟨m2, p2, k2, d2, rfl, hs, ho, hb⟩; have HX2 : Hid (Num x2 m2 p2 k2 d2 (va * va) 1202) := (by have h := num_mul hs ho HZ.out.1 HZ.out.1; exact ⟨h.1, Nat.le_trans h.2 (by decide)⟩); have hbX2 : Below Z.heap.size Z x2 := bnext hbX1 hb; have hb12 : Below x1.heap.size x1 x2 := hb; clear hs ho)
                  | (go_at_call 10; refine (lmul_any n3 n3 ao3 ao3 l3 c3 l3 c3 (va + vb) (va + vb) _ (HZ.out.2.2.1.later (Below.refl _ _).drew).1 (HZ.out.2.2.1.later (Below.refl _ _).drew).1 (by omega) (by omega)).mono ?_; rintro e x1 ⟨m1, p1, k1, d1, rfl, hs, ho, hb⟩; have HX1 : Hid (Num x1 m1 p1 k1 d1 ((va + vb) * (va + vb)) 1202) := (by have h := num_mul hs ho HZ.out.2.2.1 HZ.out.2.2.1; exact ⟨h.1, Nat.le_trans h.2 (by decide)⟩); have hbX1 : Below Z.heap.size Z x1 := bnext (Below.refl _ _).drew hb; clear hs ho hb)
                  | (go_at_call 11; refine (eqint_at m1 m6 p1 p6 k1 d1 k6 d6 _ _ _ (HX1.out.1.later (bnext (bnext (bnext (bnext hb12 hbs3) hbs4) hbs5) hbs6)) HX6.out.1 (by have := HX1.out.2; omega) true HQ1.out).mono ?_; rintro e x7 ⟨rfl, hb7⟩; have hbX7 : Below Z.heap.size Z x7 := bnext hbX6 hb7; clear hb7))
              go_wp2
              go_meet
              exact ⟨rfl, hbX7⟩
            case rest =>
              obtain ⟨rfl, hbZ⟩ := hcut
              have hcl := KS.out _ hbZ
              obtain ⟨_, g0, g1, g2, g3, _, _, g6, g7⟩ := hcl
              have HW : Hid (Below w.heap.size w Z) := bnext hbW v8
              by_cases hvb : vb = 0
              · as_aux_lemma =>
                have HS0 : Hid (cmpI vb 0 = 0) := cmpI_eq hvb
                clear hvb
                go_wp2_with (go_at_call 12; refine (bsign_any n2 ao2 l2 c2 vb _ (HZ.out.2.1.1.later hbZ) (by omega) 0 HS0.out).mono ?_; rintro e x1 ⟨rfl, hb1⟩)
                go_roundw
                case rel => exact ⟨k + 1, by omega, by omega, by go_num, bnext HW.out (bnext hbZ hb1)⟩
                case measure => simp [intOf]; omega
              · obtain ⟨cs, hcs⟩ : ∃ cs, cmpI vb 0 = cs := ⟨_, rfl⟩
                have hcs1 : (cs != 0) = true := by (rw [← hcs]; unfold cmpI; split <;> (try split) <;> simp_all; omega)
                have HCS : Hid (cmpI vb 0 = cs) := hcs
                have HVB : Hid (vb ≠ 0) := hvb
                clear hcs hvb
                go_wp2_with (first
                  | (go_at_call 12; refine (bsign_any n2 ao2 l2 c2 vb _ (HZ.out.2.1.1.later hbZ) (by omega) cs HCS.out).mono ?_; rintro e x1 ⟨rfl, hb1⟩; have HB1 : Hid (Below Z.heap.size Z x1) := bnext hbZ hb1; clear hb1 g0 g1 g2 g3 g6 g7; obtain ⟨_, g0, g1, g2, g3, _, _, g6, g7⟩ := KS.out _ HB1.out)
                  | (go_at_call 13; refine (bdivide_any n4 n2 ao4 ao2 l4 c4 l2 c2 (va * vb) vb _ (HZ.out.2.2.2.1.later HB1.out) (HZ.out.2.1.1.later HB1.out) (by omega) (by omega) HVB.out).mono ?_; rintro e y5 ⟨qq, rr, hfl, n5, ao5, l5, c5, n6, ao6, l6, c6, rfl, hs5, ho5, hs6, ho6, hb5⟩; have e1 := (floor_mul hfl HVB.out).1; have e2 := (floor_mul hfl HVB.out).2; rw [e1] at hs5 ho5; rw [e2] at hs6 ho6; have HA5 : Hid (Own x1.heap.size y5 .u64 51 ao5 l5 c5 (mag va.natAbs) ∧ n5 = sgB va ∧ Own x1.heap.size y5 .u64 51 ao6 l6 c6 (mag (0 : Int).natAbs) ∧ n6 = sgB 0 ∧ Below x1.heap.size x1 y5) := ⟨ho5, hs5, ho6, hs6, hb5⟩; clear hfl e1 e2 hs5 ho5 hs6 ho6 hb5 g0 g1 g2 g3 g6 g7))
                have hU0 : InVar ((y5.alloc (.cells #[.bool n5, .slice ao5 l5 c5] 26)).alloc (.cells #[.bool n6, .slice ao6 l6 c6] 26)) y1.heap.size n1 ao1 l1 c1 va ∧ InVar ((y5.alloc (.cells #[.bool n5, .slice ao5 l5 c5] 26)).alloc (.cells #[.bool n6, .slice ao6 l6 c6] 26)) y2.heap.size n2 ao2 l2 c2 vb ∧ InVar ((y5.alloc (.cells #[.bool n5, .slice ao5 l5 c5] 26)).alloc (.cells #[.bool n6, .slice ao6 l6 c6] 26)) y4.heap.size n4 ao4 l4 c4 (va * vb) ∧ InVar ((y5.alloc (.cells #[.bool n5, .slice ao5 l5 c5] 26)).alloc (.cells #[.bool n6, .slice ao6 l6 c6] 26)) y5.heap.size n5 ao5 l5 c5 va ∧ InVar ((y5.alloc (.cells #[.bool n5, .slice ao5 l5 c5] 26)).alloc (.cells #[.bool n6, .slice ao6 l6 c6] 26)) (y5.heap.size + 1) n6 ao6 l6 c6 0 ∧ Below Z.heap.size Z ((y5.alloc (.cells #[.bool n5, .slice ao5 l5 c5] 26)).alloc (.cells #[.bool n6, .slice ao6 l6 c6] 26)) := by
                  have h1 := InVar.new (v := va) HB1.out HA5.out.2.1 HA5.out.1 HA5.out.2.2.2.2
                  have h2 := InVar.new (v := 0) (y := (y5.alloc (.cells #[.bool n5, .slice ao5 l5 c5] 26))) HB1.out HA5.out.2.2.2.1 (HA5.out.2.2.1.later ((Below.refl _ _).alloc (Nat.le_refl _) _)) h1.out.2.2
                  have h3 : Below (y5.alloc (.cells #[.bool n5, .slice ao5 l5 c5] 26)).heap.size (y5.alloc (.cells #[.bool n5, .slice ao5 l5 c5] 26)) ((y5.alloc (.cells #[.bool n5, .slice ao5 l5 c5] 26)).alloc (.cells #[.bool n6, .slice ao6 l6 c6] 26)) := (Below.refl _ _).alloc (Nat.le_refl _) _
                  have h4 := h2.out.1
                  rw [show (y5.alloc (.cells #[.bool n5, .slice ao5 l5 c5] 26)).heap.size = y5.heap.size + 1 by simp] at h4
                  exact ⟨HV.out.1.later h2.out.2.1, HV.out.2.1.later h2.out.2.1, HV.out.2.2.1.later h2.out.2.1, h1.out.1.later h3, h4, h2.out.2.1⟩
                clear HA5 HB1 HV KS hbZ
                revert hU0
                generalize ((y5.alloc (.cells #[.bool n5, .slice ao5 l5 c5] 26)).alloc (.cells #[.bool n6, .slice ao6 l6 c6] 26)) = U
                rintro ⟨u1, u2, u4, u5, u6, u8⟩
                have hl5 : l5 ≤ 300 := by rw [u5.int.row.hlen, ← u1.int.row.hlen]; exact hl1
                have hl6 : l6 ≤ 300 := by rw [u6.int.row.hlen]; exact Nat.zero_le _
                have KU : Hid (∀ w' : World, Below U.heap.size U w' → (Below U.heap.size U w' ∧ w'.cell? ⟨y2.heap.size, 0, none⟩ = some (.bool n2) ∧ w'.cell? ⟨y2.heap.size, 1, none⟩ = some (.slice ao2 l2 c2) ∧ w'.cell? ⟨y4.heap.size, 0, none⟩ = some (.bool n4) ∧ w'.cell? ⟨y4.heap.size, 1, none⟩ = some (.slice ao4 l4 c4))) := fun w' h => ⟨h, (u2.box.later h u2.lt).1, (u2.box.later h u2.lt).2, (u4.box.later h u4.lt).1, (u4.box.later h u4.lt).2⟩
                have HU : Hid (Num U n1 ao1 l1 c1 va 300 ∧ Num U n2 ao2 l2 c2 vb 300 ∧ Num U n4 ao4 l4 c4 (va * vb) 600 ∧ Num U n5 ao5 l5 c5 va 300 ∧ Num U n6 ao6 l6 c6 0 300) := ⟨⟨u1.int, hl1⟩, ⟨u2.int, hl2⟩, ⟨u4.int, hl4⟩, ⟨u5.int, hl5⟩, ⟨u6.int, hl6⟩⟩
                have HUV : Hid (InVar U y1.heap.size n1 ao1 l1 c1 va ∧ InVar U y2.heap.size n2 ao2 l2 c2 vb ∧ InVar U y4.heap.size n4 ao4 l4 c4 (va * vb) ∧ InVar U y5.heap.size n5 ao5 l5 c5 va ∧ InVar U (y5.heap.size + 1) n6 ao6 l6 c6 0) := ⟨u1, u2, u4, u5, u6⟩
                clear u1 u2 u4 u5 u6
                go_cut [13, 14, 15] (fun s13 s14 s15 wx => ∃ r13 r14, s13 = .pointer (some ⟨r13, 0, none⟩) ∧ s14 = .pointer (some ⟨r14, 0, none⟩) ∧ s15 = .int .i64 0 ∧ TwoVars U wx r13 r14 (va * vb + 1) vb)
                case first => as_aux_lemma =>
                  have hzU : U.heap.size ≤ U.drew.heap.size := Nat.le_refl _
                  go_region_held3 (fun w' => (Below U.heap.size U w' ∧ w'.cell? ⟨y2.heap.size, 0, none⟩ = some (.bool n2) ∧ w'.cell? ⟨y2.heap.size, 1, none⟩ = some (.slice ao2 l2 c2) ∧ w'.cell? ⟨y4.heap.size, 0, none⟩ = some (.bool n4) ∧ w'.cell? ⟨y4.heap.size, 1, none⟩ = some (.slice ao4 l4 c4)))
                    (with_reducible (first | exact KU.out _ (Below.refl _ _).drew | exact KU.out _ (by assumption) | (refine KU.out _ ?_; (repeat (first | refine below_alloc ?_ (Nat.le_refl _) | refine Below.drew ?_ | refine below_set ?_ (by omega))); (first | exact hbY6 | exact hbF2 | exact hbF1 | exact Below.refl _ _))))
                    (first
                      | (go_at_call 14; refine with_held (S := fun w9 => Below U.heap.size U w9) (by show Below _ _ _; with_reducible ((repeat (first | refine below_alloc ?_ (Nat.le_refl _) | refine Below.drew ?_ | refine below_set ?_ (by omega))); (first | exact hbY6 | exact hbF2 | exact hbF1 | exact Below.refl _ _))) (fun hS => ?_); refine (rfrom_any 1 _ (by decide) (by decide)).mono ?_; rintro e f1 ⟨nf, aof, lf, cf, rfl, hsf, hof, hbf⟩; have HF1 : Hid (Num f1 nf aof lf cf 1 1) := ⟨hof.int hsf, (by rw [hof.row.hlen]; exact mag_len_one (by decide))⟩; have hbF1 : Below U.heap.size U f1 := bnext hS hbf; have hzF := hbf.size; (try simp only [World.size_alloc, World.size_drew] at hzF); have hzF1 := hbF1.size; (first | (have FA : Fresh f1 U.heap.size := Fresh.next (Fresh.drew' (Fresh.alloc' (o := (.cells #[.bool false, .slice none 0 0] 26)) (Fresh.new U))) hbf; have FB : Fresh f1 (U.heap.size + 1) := Fresh.next (Fresh.drew' (Fresh.new1 U)) hbf) | (have FA : Fresh f1 U.heap.size := Fresh.next (Fresh.drew' (Fresh.new U)) hbf) | skip); clear hS hsf hof hbf)
                      | (go_at_call 9; refine with_held (S := fun w9 => Below U.heap.size U w9) (by show Below _ _ _; with_reducible ((repeat (first | refine below_alloc ?_ (Nat.le_refl _) | refine Below.drew ?_ | refine below_set ?_ (by omega))); (first | exact hbY6 | exact hbF2 | exact hbF1 | exact Below.refl _ _))) (fun hS => ?_); refine with_held (S := fun w9 => Below f1.heap.size f1 w9) (by show Below _ _ _; with_reducible ((repeat (refine below_alloc ?_ (Nat.le_refl _))); exact Below.refl _ _)) (fun hS2 => ?_); refine (ladd_small n4 nf ao4 aof l4 c4 lf cf (va * vb) 1 _ (HU.out.2.2.1.later hS).1 (HF1.out.later hS2).1 (by omega) (by have := HF1.out.2; omega)).mono ?_; rintro e f2 ⟨ng, aog, lg, cg, rfl, hsg, hog, hbg⟩; have HG1 : Hid (Num f2 ng aog lg cg (va * vb + 1) 602) := num_add hsg hog (HU.out.2.2.1.later hS) (HF1.out.later hS2); have hbF2 : Below U.heap.size U f2 := bnext hS hbg; have hzG := hbg.size; (try simp only [World.size_alloc, World.size_drew] at hzG); have hzF2 := hbF2.size; (first | (have FA : Fresh f2 f1.heap.size := Fresh.next (Fresh.alloc' (o := (.cells #[.bool false, .slice none 0 0] 26)) (Fresh.new f1)) hbg; have FB : Fresh f2 (f1.heap.size + 1) := Fresh.next (Fresh.new1 f1) hbg) | (have _t := FA; have FB : Fresh f2 f1.heap.size := Fresh.next (Fresh.new f1) hbg; replace FA := Fresh.next (Fresh.alloc' (o := (.cells #[.bool false, .slice none 0 0] 26)) FA) hbg) | (have FA : Fresh f2 f1.heap.size := Fresh.next (Fresh.new f1) hbg) | ((try (replace FA := Fresh.next FA hbg)); (try (replace FB := Fresh.next FB hbg)))); clear hS hS2 hsg hog hbg)
                      | (go_at_call 13; refine with_held (S := fun w9 => Below U.heap.size U w9) (by show Below _ _ _; with_reducible ((repeat (first | refine below_alloc ?_ (Nat.le_refl _) | refine Below.drew ?_ | refine below_set ?_ (by omega))); (first | exact hbY6 | exact hbF2 | exact hbF1 | exact Below.refl _ _))) (fun hS => ?_); refine with_held (S := fun w9 => Below f2.heap.size f2 w9) (by show Below _ _ _; with_reducible ((repeat (refine below_alloc ?_ (Nat.le_refl _))); exact Below.refl _ _)) (fun hS2 => ?_); refine (bdivide_any ng n2 aog ao2 lg cg l2 c2 (va * vb + 1) vb _ (HG1.out.later hS2).1 (HU.out.2.1.later hS).1 (by have := HG1.out.2; omega) (by omega) HVB.out).mono ?_; rintro e y6 ⟨qq, rr, hfl, n7, ao7, l7, c7, n8, ao8, l8, c8, rfl, hs7, ho7, hs8, ho8, hb6⟩; have hfs := floor_small hfl HVB.out; have HD : Hid ((n7 = sgB qq ∧ n8 = sgB rr) ∧ (l7 ≤ 2000 ∧ l8 ≤ 2000) ∧ qq * vb + rr = va * vb + 1) := ⟨⟨hs7, hs8⟩, ⟨(by have h1 := HG1.out.1.row.hlen; have h2 := HG1.out.2; have h3 := HU.out.2.1.1.row.hlen; rw [ho7.row.hlen]; omega), (by have h3 := HU.out.2.1.1.row.hlen; rw [ho8.row.hlen]; omega)⟩, (by have := hfl.1; rw [Int.mul_comm qq vb]; omega)⟩; have HO7 : Hid (Own _ y6 .u64 51 ao7 l7 c7 (mag qq.natAbs) ∧ Own _ y6 .u64 51 ao8 l8 c8 (mag rr.natAbs)) := ⟨ho7, ho8⟩; (try simp only [World.size_alloc, World.size_drew] at HO7); have hbY6 : Below U.heap.size U y6 := bnext hS hb6; have hzH := hb6.size; (try simp only [World.size_alloc, World.size_drew] at hzH); have hzY6 := hbY6.size; (first | (have FA : Fresh y6 f2.heap.size := Fresh.next (Fresh.alloc' (o := (.cells #[.bool false, .slice none 0 0] 26)) (Fresh.new f2)) hb6; have FB : Fresh y6 (f2.heap.size + 1) := Fresh.next (Fresh.new1 f2) hb6) | (have _t := FA; have FB : Fresh y6 f2.heap.size := Fresh.next (Fresh.new f2) hb6; replace FA := Fresh.next (Fresh.alloc' (o := (.cells #[.bool false, .slice none 0 0] 26)) FA) hb6) | (have FA : Fresh y6 f2.heap.size := Fresh.next (Fresh.new f2) hb6) | ((try (replace FA := Fresh.next FA hb6)); (try (replace FB := Fresh.next FB hb6)))); (try (have hltA := cell_lt FA.2.1; dsimp only at hltA; have hneA := Nat.ne_of_lt hltA; have hneA2 := Ne.symm hneA; obtain ⟨a5, a3, a4⟩ := FA)); (try (have hltB := cell_lt FB.2.1; dsimp only at hltB; have hneB := Nat.ne_of_lt hltB; have hneB2 := Ne.symm hneB; obtain ⟨b5, b3, b4⟩ := FB)); clear hS hS2 hfl hfs hs7 hs8 ho7 ho8 hb6))
                  all_goals go_wp2
                  all_goals go_meet
                  all_goals refine ⟨_, _, rfl, rfl, rfl, ?_⟩
                  all_goals (first
                    | (with_reducible exact two_a HO7 HD hbY6)
                    | (with_reducible exact two_b HO7 HD hbY6)
                    | ((with_reducible refine two_c HO7 HD hbY6 ?_ ?_ ?_) <;> (first | (with_reducible exact fresh_mk a5 a3 a4) | (with_reducible exact fresh_mk b5 b3 b4) | omega))
                    | ((with_reducible refine two_d HO7 HD hbY6 ?_ ?_ ?_) <;> (first | (with_reducible exact fresh_mk a5 a3 a4) | (with_reducible exact fresh_mk b5 b3 b4) | omega))
                    | ((with_reducible refine two_e HO7 HD hbY6 ?_ ?_ ?_ ?_ ?_ ?_ ?_) <;> (first | (with_reducible exact fresh_mk a5 a3 a4) | (with_reducible exact fresh_mk b5 b3 b4) | omega)))
                case rest => as_aux_lemma =>
                  obtain ⟨r13, r14, rfl, rfl, rfl, n7, ao7, l7, c7, n8, ao8, l8, c8, qq, rr, x7, x8, ⟨hlt7, hlt8⟩, hq7, hq8, heq, hbU⟩ := hcut
                  have t1 := HUV.out.1.later hbU
                  have t2 := HUV.out.2.1.later hbU
                  have t4 := HUV.out.2.2.1.later hbU
                  have t5 := HUV.out.2.2.2.1.later hbU
                  have t6 := HUV.out.2.2.2.2.later hbU
                  have KC : Hid (∀ w' : World, Below wc.heap.size wc w' → (Below wc.heap.size wc w' ∧ w'.cell? ⟨y1.heap.size, 0, none⟩ = some (.bool n1) ∧ w'.cell? ⟨y1.heap.size, 1, none⟩ = some (.slice ao1 l1 c1) ∧ w'.cell? ⟨y2.heap.size, 0, none⟩ = some (.bool n2) ∧ w'.cell? ⟨y2.heap.size, 1, none⟩ = some (.slice ao2 l2 c2) ∧ w'.cell? ⟨y4.heap.size, 0, none⟩ = some (.bool n4) ∧ w'.cell? ⟨y4.heap.size, 1, none⟩ = some (.slice ao4 l4 c4) ∧ w'.cell? ⟨y5.heap.size, 0, none⟩ = some (.bool n5) ∧ w'.cell? ⟨y5.heap.size, 1, none⟩ = some (.slice ao5 l5 c5) ∧ w'.cell? ⟨(y5.heap.size + 1), 0, none⟩ = some (.bool n6) ∧ w'.cell? ⟨(y5.heap.size + 1), 1, none⟩ = some (.slice ao6 l6 c6) ∧ w'.cell? ⟨r13, 0, none⟩ = some (.bool n7) ∧ w'.cell? ⟨r13, 1, none⟩ = some (.slice ao7 l7 c7) ∧ w'.cell? ⟨r14, 0, none⟩ = some (.bool n8) ∧ w'.cell? ⟨r14, 1, none⟩ = some (.slice ao8 l8 c8))) := fun w' h => ⟨h, (t1.box.later h t1.lt).1, (t1.box.later h t1.lt).2, (t2.box.later h t2.lt).1, (t2.box.later h t2.lt).2, (t4.box.later h t4.lt).1, (t4.box.later h t4.lt).2, (t5.box.later h t5.lt).1, (t5.box.later h t5.lt).2, (t6.box.later h t6.lt).1, (t6.box.later h t6.lt).2, (x7.later h hlt7).1, (x7.later h hlt7).2, (x8.later h hlt8).1, (x8.later h hlt8).2⟩
                  have HC : Hid (Num wc n1 ao1 l1 c1 va 300 ∧ Num wc n2 ao2 l2 c2 vb 300 ∧ Num wc n4 ao4 l4 c4 (va * vb) 600 ∧ Num wc n5 ao5 l5 c5 va 300 ∧ Num wc n6 ao6 l6 c6 0 300 ∧ Num wc n7 ao7 l7 c7 qq 2000 ∧ Num wc n8 ao8 l8 c8 rr 2000) := ⟨HU.out.1.later hbU, HU.out.2.1.later hbU, HU.out.2.2.1.later hbU, HU.out.2.2.2.1.later hbU, HU.out.2.2.2.2.later hbU, hq7, hq8⟩
                  have HQ3 : Hid (decide (qq * vb + rr = va * vb + 1) = true) := decide_eq_true heq
                  have HWC : Hid (Below w.heap.size w wc) := bnext HW.out (bnext u8 hbU)
                  have hl7 : l7 ≤ 2000 := hq7.2
                  have hl8 : l8 ≤ 2000 := hq8.2
                  clear t1 t2 t4 t5 t6 x7 x8 hq7 hq8 heq KU HUV HU hbU
                  go_wp2
                  go_region_held3 (fun w' => (Below wc.heap.size wc w' ∧ w'.cell? ⟨y1.heap.size, 0, none⟩ = some (.bool n1) ∧ w'.cell? ⟨y1.heap.size, 1, none⟩ = some (.slice ao1 l1 c1) ∧ w'.cell? ⟨y2.heap.size, 0, none⟩ = some (.bool n2) ∧ w'.cell? ⟨y2.heap.size, 1, none⟩ = some (.slice ao2 l2 c2) ∧ w'.cell? ⟨y4.heap.size, 0, none⟩ = some (.bool n4) ∧ w'.cell? ⟨y4.heap.size, 1, none⟩ = some (.slice ao4 l4 c4) ∧ w'.cell? ⟨y5.heap.size, 0, none⟩ = some (.bool n5) ∧ w'.cell? ⟨y5.heap.size, 1, none⟩ = some (.slice ao5 l5 c5) ∧ w'.cell? ⟨(y5.heap.size + 1), 0, none⟩ = some (.bool n6) ∧ w'.cell? ⟨(y5.heap.size + 1), 1, none⟩ = some (.slice ao6 l6 c6) ∧ w'.cell? ⟨r13, 0, none⟩ = some (.bool n7) ∧ w'.cell? ⟨r13, 1, none⟩ = some (.slice ao7 l7 c7) ∧ w'.cell? ⟨r14, 0, none⟩ = some (.bool n8) ∧ w'.cell? ⟨r14, 1, none⟩ = some (.slice ao8 l8 c8)))
                    (with_reducible first
                      | exact KC.out _ (Below.refl _ _).drew
                      | exact KC.out _ (by assumption))
                    (first
                      | (go_at_call 15; refine (num_any 0 _).mono ?_; rintro e xn ⟨rfl, rfl⟩)
                      | (go_at_call 12; refine (bsign_any n6 ao6 l6 c6 0 _ (HC.out.2.2.2.2.1.later (Below.refl _ _).drew).1 (by omega) 0 (cmpI_eq rfl)).mono ?_; rintro e s1 ⟨rfl, hb⟩; have hbS1 : Below wc.heap.size wc s1 := bnext (Below.refl _ _).drew hb; clear hb)
                      | (go_at_call 11; have _t := HS6; refine (eqint_at m4 m6 p4 p6 k4 d4 k6 d6 _ _ _ (HS4.out.later (bnext hb45 hb56)).1 HS6.out.1 (by have := HS4.out.2; omega) true HQ3.out).mono ?_; rintro e s7 ⟨rfl, hb⟩; have hbS7 : Below wc.heap.size wc s7 := bnext hbS6 hb; clear hb)
                      | (go_at_call 11; have _t := hbS1; refine (eqint_at n5 n1 ao5 ao1 l5 c5 l1 c1 va va _ (HC.out.2.2.2.1.later hbS1).1 (HC.out.1.later hbS1).1 (by omega) true (decide_eq_true rfl)).mono ?_; rintro e s2 ⟨rfl, hb⟩; have hbS2 : Below wc.heap.size wc s2 := bnext hbS1 hb; clear hb)
                      | (go_at_call 10; refine (lmul_any n7 n2 ao7 ao2 l7 c7 l2 c2 qq vb _ (HC.out.2.2.2.2.2.1.later hbS2).1 (HC.out.2.1.later hbS2).1 (by omega) (by omega)).mono ?_; rintro e s3 ⟨m3, p3, k3, d3, rfl, hs, ho, hb⟩; have HS3 : Hid (Num s3 m3 p3 k3 d3 (qq * vb) 2300) := num_mul hs ho HC.out.2.2.2.2.2.1 HC.out.2.1; have hbS3 : Below wc.heap.size wc s3 := bnext hbS2 hb; clear hs ho hb)
                      | (go_at_call 9; have _t := HS5; refine (ladd_small n4 m5 ao4 p5 l4 c4 k5 d5 (va * vb) 1 _ (HC.out.2.2.1.later hbS5).1 HS5.out.1 (by omega) (by have := HS5.out.2; omega)).mono ?_; rintro e s6 ⟨m6, p6, k6, d6, rfl, hs, ho, hb⟩; have HS6 : Hid (Num s6 m6 p6 k6 d6 (va * vb + 1) 602) := num_add hs ho (HC.out.2.2.1.later hbS5) HS5.out; have hbS6 : Below wc.heap.size wc s6 := bnext hbS5 hb; have hb56 : Below s5.heap.size s5 s6 := hb; clear hs ho hb)
                      | (go_at_call 9; have _t := HS3; refine (ladd_small m3 n8 p3 ao8 k3 d3 l8 c8 (qq * vb) rr _ HS3.out.1 (HC.out.2.2.2.2.2.2.later hbS3).1 (by have := HS3.out.2; omega) (by omega)).mono ?_; rintro e s4 ⟨m4, p4, k4, d4, rfl, hs, ho, hb⟩; have HS4 : Hid (Num s4 m4 p4 k4 d4 (qq * vb + rr) 4301) := num_add hs ho HS3.out (HC.out.2.2.2.2.2.2.later hbS3); have hbS4 : Below wc.heap.size wc s4 := bnext hbS3 hb; clear hs ho hb)
                      | (go_at_call 14; have _t := HS4; refine (rfrom_any 1 _ (by decide) (by decide)).mono ?_; rintro e s5 ⟨m5, p5, k5, d5, rfl, hs, ho, hb⟩; have hb45 : Below s4.heap.size s4 s5 := hb; have HS5 : Hid (Num s5 m5 p5 k5 d5 1 1) := ⟨ho.int hs, (by rw [ho.row.hlen]; exact mag_len_one (by decide))⟩; have hbS5 : Below wc.heap.size wc s5 := bnext hbS4 hb; clear hs ho hb))
                  go_wp2
                  go_roundw
                  case rel => exact ⟨k + 1, by omega, by omega, by go_num, bnext HWC.out hbS7⟩
                  case measure => simp [intOf]; omega
      · as_aux_lemma =>
        have HH : Hid ((decide (30 < (la : Int)) || decide (30 < (lb : Int))) = true) := hhv
        clear hhv
        go_wp2_with (go_at_call 5; rw [← hT.eq]; refine (heavy_any na nb ao bo la ca lb cb N _ true HH.out).mono ?_; rintro e w1 ⟨rfl, hb1⟩)
        go_roundw
        case rel => exact ⟨k + 1, by omega, by omega, by go_num, bnext hbW hb1⟩
        case measure => simp [intOf]; omega
    · as_aux_lemma =>
      have hend : ¬ k < len ∨ k = 3 := by omega
      rcases hend with he | he
      · go_wp2_with (go_at_call 16; refine (wakes_any _).mono ?_; rintro e w1 ⟨rfl, hb1⟩)
        go_ret
        exact ⟨rfl, bnext hbel hb1⟩
      · subst he
        by_cases hq : 3 < len
        · go_wp2_with (go_at_call 16; refine (wakes_any _).mono ?_; rintro e w1 ⟨rfl, hb1⟩)
          go_ret
          exact ⟨rfl, bnext hbel hb1⟩
        · go_wp2_with (go_at_call 16; refine (wakes_any _).mono ?_; rintro e w1 ⟨rfl, hb1⟩)
          go_ret
          exact ⟨rfl, bnext hbel hb1⟩
end Go.Proofs.Ytegggnjghnbdbaa
