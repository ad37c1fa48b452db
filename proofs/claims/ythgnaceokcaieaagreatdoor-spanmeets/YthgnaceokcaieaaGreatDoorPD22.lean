/-
  A pack of walks and facts: TH.
-/
import Derived.Test.YthgnaceokcaieaaGreatDoorPD18
import Derived.Test.YthgnaceokcaieaaGreatDoorPD21
import Derived.Deep.DeepCutAuto
set_option maxRecDepth 100000
set_option maxHeartbeats 40000000
set_option linter.unusedVariables false
set_option linter.unusedSimpArgs false
namespace Go.Proofs.YthgnaceokcaieaaGreatDoor
open Go.RowKit
theorem spanMeets_any (lo : Option Addr) (len cap : Nat) (w : World) (hE : ElemsS w lo len) (hl : len ≤ 9223372036854775807) (hT0 : TabAt 0 Lib.deBruijn64tab w) :
  Calls Tryz.prog 5 #[.slice lo len cap] w fun e w' => e = .returned (.bool true) ∧ Below w.heap.size w w' := by
 have HT : Hid (TabAt 0 Lib.deBruijn64tab w) := hT0
 clear hT0
 go_enter Tryz.func5, Tryz.ntmps5
 go_wp2
 go_loopw [3] (fun i wr => ∃ k : Nat, k ≤ len ∧ k ≤ 30 ∧ i = .int .i64 k ∧ Below w.heap.size w wr) (fun i _ => 30 - (intOf i).toNat)
 case atStart => exact ⟨0, Nat.zero_le _, by omega, rfl, Below.refl _ _⟩
 case round =>
  obtain ⟨k, hk, hk30, rfl, hbel⟩ := hrel
  by_cases hlt : k < len ∧ k < 30
  ·
   obtain ⟨hlt, hlt30⟩ := hlt
   obtain ⟨b, off, rfl, hbw, hel⟩ := hE k hlt
   refine (hel.later hbel hbw).elim ?_
   intro n1 n2 n3 n4 n5 o1 p1 o2 p2 o3 p3 o4 p4 o5 p5 l1 c1 m1 k1 l2 c2 m2 k2 l3 c3 m3 k3 l4 c4 m4 k4 l5 c5 m5 k5 N x1 d1 x2 d2 x3 d3 x4 d4 x5 d5 hc hrow
   have h0 : wr.cell? ⟨b, off + k * 16, none⟩ = _ := hc 0 _ rfl
   have h1 := hc 1 _ rfl; have h2 := hc 2 _ rfl; have h3 := hc 3 _ rfl; have h4 := hc 4 _ rfl; have h5 := hc 5 _ rfl; have h6 := hc 6 _ rfl; have h7 := hc 7 _ rfl; have h8 := hc 8 _ rfl; have h9 := hc 9 _ rfl; have h10 := hc 10 _ rfl; have h11 := hc 11 _ rfl; have h12 := hc 12 _ rfl; have h13 := hc 13 _ rfl; have h14 := hc 14 _ rfl; have h15 := hc 15 _ rfl
   go_upto_region 4 with fail
   go_cut [4] (fun s4 wx => ∃ rP, s4 = .pointer (some ⟨rP, 0, none⟩) ∧ Bx wx rP [.bool n1, .slice o1 l1 c1, .slice p1 m1 k1, .bool n2, .slice o2 l2 c2, .slice p2 m2 k2, .bool n3, .slice o3 l3 c3, .slice p3 m3 k3, .bool n4, .slice o4 l4 c4, .slice p4 m4 k4, .bool n5, .slice o5 l5 c5, .slice p5 m5 k5, .int .i64 N] ∧ Below wr.heap.size wr wx)
   case first => as_aux_lemma =>
    go_wp2
    go_meet
    exact ⟨_, rfl, Bx.new _ _ _, (Below.refl _ _).alloc (Nat.le_refl _) _⟩
   case rest =>
    obtain ⟨rP, rfl, hP, hbW'⟩ := hcut
    obtain ⟨W, hX⟩ : ∃ X, X = wc := ⟨_, rfl⟩
    rw [← hX] at hP hbW'
    rw [← hX]
    clear hX h0 h1 h2 h3 h4 h5 h6 h7 h8 h9 h10 h11 h12 h13 h14 h15
    have hsz := hP.lt
    have hbW : Below w.heap.size w W := bnext hbel hbW'
    have HX : Hid ((RowAt W .u64 o1 l1 c1 x1 ∧ Wd 18446744073709551616 x1 ∧ RowAt W .u64 p1 m1 k1 d1 ∧ Wd 18446744073709551616 d1) ∧ (RowAt W .u64 o2 l2 c2 x2 ∧ Wd 18446744073709551616 x2 ∧ RowAt W .u64 p2 m2 k2 d2 ∧ Wd 18446744073709551616 d2) ∧ (RowAt W .u64 o3 l3 c3 x3 ∧ Wd 18446744073709551616 x3 ∧ RowAt W .u64 p3 m3 k3 d3 ∧ Wd 18446744073709551616 d3) ∧ (RowAt W .u64 o4 l4 c4 x4 ∧ Wd 18446744073709551616 x4 ∧ RowAt W .u64 p4 m4 k4 d4 ∧ Wd 18446744073709551616 d4) ∧ (RowAt W .u64 o5 l5 c5 x5 ∧ Wd 18446744073709551616 x5 ∧ RowAt W .u64 p5 m5 k5 d5 ∧ Wd 18446744073709551616 d5)) := (by obtain ⟨⟨r1, v1, s1, t1⟩, ⟨r2, v2, s2, t2⟩, ⟨r3, v3, s3, t3⟩, ⟨r4, v4, s4, t4⟩, ⟨r5, v5, s5, t5⟩⟩ := hrow; exact ⟨⟨r1.later hbW', v1, s1.later hbW', t1⟩, ⟨r2.later hbW', v2, s2.later hbW', t2⟩, ⟨r3.later hbW', v3, s3.later hbW', t3⟩, ⟨r4.later hbW', v4, s4.later hbW', t4⟩, ⟨r5.later hbW', v5, s5.later hbW', t5⟩⟩)
    have HTW : Hid (TabAt 0 Lib.deBruijn64tab W) := tab_later HT.out hbW
    clear hrow hel hc hbW'
    have zb := hP; have z0 := zb.1 0 _ rfl; have z1 := zb.1 1 _ rfl; have z2 := zb.1 2 _ rfl; have z3 := zb.1 3 _ rfl; have z4 := zb.1 4 _ rfl; have z5 := zb.1 5 _ rfl; have z6 := zb.1 6 _ rfl; have z7 := zb.1 7 _ rfl; have z8 := zb.1 8 _ rfl; have z9 := zb.1 9 _ rfl; have z10 := zb.1 10 _ rfl; have z11 := zb.1 11 _ rfl; have z12 := zb.1 12 _ rfl; have z13 := zb.1 13 _ rfl; have z14 := zb.1 14 _ rfl; have z15 := zb.1 15 _ rfl; clear zb
    cases hhv : (((((decide ((4 : Int) < (l1 : Int)) || decide ((4 : Int) < (m1 : Int))) || (decide ((4 : Int) < (l2 : Int)) || decide ((4 : Int) < (m2 : Int)))) || (decide ((4 : Int) < (l3 : Int)) || decide ((4 : Int) < (m3 : Int)))) || (decide ((4 : Int) < (l4 : Int)) || decide ((4 : Int) < (m4 : Int)))) || (decide ((4 : Int) < (l5 : Int)) || decide ((4 : Int) < (m5 : Int))))
    ·
     have HH : Hid ((((((decide ((4 : Int) < (l1 : Int)) || decide ((4 : Int) < (m1 : Int))) || (decide ((4 : Int) < (l2 : Int)) || decide ((4 : Int) < (m2 : Int)))) || (decide ((4 : Int) < (l3 : Int)) || decide ((4 : Int) < (m3 : Int)))) || (decide ((4 : Int) < (l4 : Int)) || decide ((4 : Int) < (m4 : Int)))) || (decide ((4 : Int) < (l5 : Int)) || decide ((4 : Int) < (m5 : Int)))) = false) := hhv
     have hl1 : l1 ≤ 4 := by simp at hhv; omega
     have hm1 : m1 ≤ 4 := by simp at hhv; omega
     have hl2 : l2 ≤ 4 := by simp at hhv; omega
     have hm2 : m2 ≤ 4 := by simp at hhv; omega
     have hl3 : l3 ≤ 4 := by simp at hhv; omega
     have hm3 : m3 ≤ 4 := by simp at hhv; omega
     have hl4 : l4 ≤ 4 := by simp at hhv; omega
     have hm4 : m4 ≤ 4 := by simp at hhv; omega
     have hl5 : l5 ≤ 4 := by simp at hhv; omega
     have hm5 : m5 ≤ 4 := by simp at hhv; omega
     clear hhv
     obtain ⟨rS, hS, hS'⟩ := smay_is n1 n2 o1 p1 o2 p2 l1 c1 m1 k1 l2 c2 m2 k2 x1 d1 x2 d2 W HX.out.1.1 HX.out.1.2.1 HX.out.1.2.2.1 HX.out.1.2.2.2 HX.out.2.1.1 HX.out.2.1.2.1 HX.out.2.1.2.2.1 HX.out.2.1.2.2.2 hl1 hm1 hl2 hm2
     have HS : Hid (∀ X, Below W.heap.size W X → Calls Tryz.prog 7 #[.agg #[.bool n1, .slice o1 l1 c1, .slice p1 m1 k1, .bool n2, .slice o2 l2 c2, .slice p2 m2 k2]] X fun e w' => e = .returned (.bool rS) ∧ Below X.heap.size X w') := hS
     obtain ⟨rT, hT, hT'⟩ := smay_is n3 n4 o3 p3 o4 p4 l3 c3 m3 k3 l4 c4 m4 k4 x3 d3 x4 d4 W HX.out.2.2.1.1 HX.out.2.2.1.2.1 HX.out.2.2.1.2.2.1 HX.out.2.2.1.2.2.2 HX.out.2.2.2.1.1 HX.out.2.2.2.1.2.1 HX.out.2.2.2.1.2.2.1 HX.out.2.2.2.1.2.2.2 hl3 hm3 hl4 hm4
     have HTT : Hid (∀ X, Below W.heap.size W X → Calls Tryz.prog 7 #[.agg #[.bool n3, .slice o3 l3 c3, .slice p3 m3 k3, .bool n4, .slice o4 l4 c4, .slice p4 m4 k4]] X fun e w' => e = .returned (.bool rT) ∧ Below X.heap.size X w') := hT
     clear hS hT
     cases rS
     ·
      clear hS' hT' HTT
      as_aux_lemma =>
      go_wp2_with (first
       | (go_at_call 7; have _t := hb1; refine (HS.out _ hb1).mono ?_; rintro e w2 ⟨rfl, hb⟩; have hb2 := bnext hb1 hb; clear hb hb1 z0 z1 z2 z3 z4 z5 z6 z7 z8 z9 z10 z11 z12 z13 z14 z15; have zb := hP.later hb2 (by omega); have z0 := zb.1 0 _ rfl; have z1 := zb.1 1 _ rfl; have z2 := zb.1 2 _ rfl; have z3 := zb.1 3 _ rfl; have z4 := zb.1 4 _ rfl; have z5 := zb.1 5 _ rfl; have z6 := zb.1 6 _ rfl; have z7 := zb.1 7 _ rfl; have z8 := zb.1 8 _ rfl; have z9 := zb.1 9 _ rfl; have z10 := zb.1 10 _ rfl; have z11 := zb.1 11 _ rfl; have z12 := zb.1 12 _ rfl; have z13 := zb.1 13 _ rfl; have z14 := zb.1 14 _ rfl; have z15 := zb.1 15 _ rfl; clear zb)
       | (go_at_call 6; refine (heavyS_any n1 n2 n3 n4 n5 o1 p1 o2 p2 o3 p3 o4 p4 o5 p5 l1 c1 m1 k1 l2 c2 m2 k2 l3 c3 m3 k3 l4 c4 m4 k4 l5 c5 m5 k5 N _ false HH.out).mono ?_; rintro e w1 ⟨rfl, hb1⟩; clear z0 z1 z2 z3 z4 z5 z6 z7 z8 z9 z10 z11 z12 z13 z14 z15; have zb := hP.later hb1 (by omega); have z0 := zb.1 0 _ rfl; have z1 := zb.1 1 _ rfl; have z2 := zb.1 2 _ rfl; have z3 := zb.1 3 _ rfl; have z4 := zb.1 4 _ rfl; have z5 := zb.1 5 _ rfl; have z6 := zb.1 6 _ rfl; have z7 := zb.1 7 _ rfl; have z8 := zb.1 8 _ rfl; have z9 := zb.1 9 _ rfl; have z10 := zb.1 10 _ rfl; have z11 := zb.1 11 _ rfl; have z12 := zb.1 12 _ rfl; have z13 := zb.1 13 _ rfl; have z14 := zb.1 14 _ rfl; have z15 := zb.1 15 _ rfl; clear zb))
      go_roundw
      case rel => exact ⟨k + 1, by omega, by omega, by go_num, bnext hbW hb2⟩
      case measure => simp [intOf]; omega
     ·
      cases rT
      ·
       clear hS' hT'
       as_aux_lemma =>
       go_wp2_with (first
        | (go_at_call 7; have _t := hb2; refine (HTT.out _ hb2).mono ?_; rintro e w3 ⟨rfl, hb⟩; have hb3 := bnext hb2 hb; clear hb hb2 z0 z1 z2 z3 z4 z5 z6 z7 z8 z9 z10 z11 z12 z13 z14 z15; have zb := hP.later hb3 (by omega); have z0 := zb.1 0 _ rfl; have z1 := zb.1 1 _ rfl; have z2 := zb.1 2 _ rfl; have z3 := zb.1 3 _ rfl; have z4 := zb.1 4 _ rfl; have z5 := zb.1 5 _ rfl; have z6 := zb.1 6 _ rfl; have z7 := zb.1 7 _ rfl; have z8 := zb.1 8 _ rfl; have z9 := zb.1 9 _ rfl; have z10 := zb.1 10 _ rfl; have z11 := zb.1 11 _ rfl; have z12 := zb.1 12 _ rfl; have z13 := zb.1 13 _ rfl; have z14 := zb.1 14 _ rfl; have z15 := zb.1 15 _ rfl; clear zb)
        | (go_at_call 7; have _t := hb1; refine (HS.out _ hb1).mono ?_; rintro e w2 ⟨rfl, hb⟩; have hb2 := bnext hb1 hb; clear hb hb1 z0 z1 z2 z3 z4 z5 z6 z7 z8 z9 z10 z11 z12 z13 z14 z15; have zb := hP.later hb2 (by omega); have z0 := zb.1 0 _ rfl; have z1 := zb.1 1 _ rfl; have z2 := zb.1 2 _ rfl; have z3 := zb.1 3 _ rfl; have z4 := zb.1 4 _ rfl; have z5 := zb.1 5 _ rfl; have z6 := zb.1 6 _ rfl; have z7 := zb.1 7 _ rfl; have z8 := zb.1 8 _ rfl; have z9 := zb.1 9 _ rfl; have z10 := zb.1 10 _ rfl; have z11 := zb.1 11 _ rfl; have z12 := zb.1 12 _ rfl; have z13 := zb.1 13 _ rfl; have z14 := zb.1 14 _ rfl; have z15 := zb.1 15 _ rfl; clear zb)
        | (go_at_call 6; refine (heavyS_any n1 n2 n3 n4 n5 o1 p1 o2 p2 o3 p3 o4 p4 o5 p5 l1 c1 m1 k1 l2 c2 m2 k2 l3 c3 m3 k3 l4 c4 m4 k4 l5 c5 m5 k5 N _ false HH.out).mono ?_; rintro e w1 ⟨rfl, hb1⟩; clear z0 z1 z2 z3 z4 z5 z6 z7 z8 z9 z10 z11 z12 z13 z14 z15; have zb := hP.later hb1 (by omega); have z0 := zb.1 0 _ rfl; have z1 := zb.1 1 _ rfl; have z2 := zb.1 2 _ rfl; have z3 := zb.1 3 _ rfl; have z4 := zb.1 4 _ rfl; have z5 := zb.1 5 _ rfl; have z6 := zb.1 6 _ rfl; have z7 := zb.1 7 _ rfl; have z8 := zb.1 8 _ rfl; have z9 := zb.1 9 _ rfl; have z10 := zb.1 10 _ rfl; have z11 := zb.1 11 _ rfl; have z12 := zb.1 12 _ rfl; have z13 := zb.1 13 _ rfl; have z14 := zb.1 14 _ rfl; have z15 := zb.1 15 _ rfl; clear zb))
       go_roundw
       case rel => exact ⟨k + 1, by omega, by omega, by go_num, bnext hbW hb3⟩
       case measure => simp [intOf]; omega
      ·
       cases hm : mayR n5 x5 d5
       ·
        have HM : Hid (mayR n5 x5 d5 = false) := hm
        clear hm hS' hT'
        as_aux_lemma =>
        go_wp2_with (first
         | (go_at_call 33; refine (qmay_any n5 o5 p5 l5 c5 m5 k5 x5 d5 _ (HX.out.2.2.2.2.1.later hb3) HX.out.2.2.2.2.2.1 (HX.out.2.2.2.2.2.2.1.later hb3) HX.out.2.2.2.2.2.2.2 (by omega) (by omega) false HM.out).mono ?_; rintro e w4 ⟨rfl, hb⟩; have hb4 := bnext hb3 hb; clear hb hb3 z0 z1 z2 z3 z4 z5 z6 z7 z8 z9 z10 z11 z12 z13 z14 z15; have zb := hP.later hb4 (by omega); have z0 := zb.1 0 _ rfl; have z1 := zb.1 1 _ rfl; have z2 := zb.1 2 _ rfl; have z3 := zb.1 3 _ rfl; have z4 := zb.1 4 _ rfl; have z5 := zb.1 5 _ rfl; have z6 := zb.1 6 _ rfl; have z7 := zb.1 7 _ rfl; have z8 := zb.1 8 _ rfl; have z9 := zb.1 9 _ rfl; have z10 := zb.1 10 _ rfl; have z11 := zb.1 11 _ rfl; have z12 := zb.1 12 _ rfl; have z13 := zb.1 13 _ rfl; have z14 := zb.1 14 _ rfl; have z15 := zb.1 15 _ rfl; clear zb)
         | (go_at_call 7; have _t := hb2; refine (HTT.out _ hb2).mono ?_; rintro e w3 ⟨rfl, hb⟩; have hb3 := bnext hb2 hb; clear hb hb2 z0 z1 z2 z3 z4 z5 z6 z7 z8 z9 z10 z11 z12 z13 z14 z15; have zb := hP.later hb3 (by omega); have z0 := zb.1 0 _ rfl; have z1 := zb.1 1 _ rfl; have z2 := zb.1 2 _ rfl; have z3 := zb.1 3 _ rfl; have z4 := zb.1 4 _ rfl; have z5 := zb.1 5 _ rfl; have z6 := zb.1 6 _ rfl; have z7 := zb.1 7 _ rfl; have z8 := zb.1 8 _ rfl; have z9 := zb.1 9 _ rfl; have z10 := zb.1 10 _ rfl; have z11 := zb.1 11 _ rfl; have z12 := zb.1 12 _ rfl; have z13 := zb.1 13 _ rfl; have z14 := zb.1 14 _ rfl; have z15 := zb.1 15 _ rfl; clear zb)
         | (go_at_call 7; have _t := hb1; refine (HS.out _ hb1).mono ?_; rintro e w2 ⟨rfl, hb⟩; have hb2 := bnext hb1 hb; clear hb hb1 z0 z1 z2 z3 z4 z5 z6 z7 z8 z9 z10 z11 z12 z13 z14 z15; have zb := hP.later hb2 (by omega); have z0 := zb.1 0 _ rfl; have z1 := zb.1 1 _ rfl; have z2 := zb.1 2 _ rfl; have z3 := zb.1 3 _ rfl; have z4 := zb.1 4 _ rfl; have z5 := zb.1 5 _ rfl; have z6 := zb.1 6 _ rfl; have z7 := zb.1 7 _ rfl; have z8 := zb.1 8 _ rfl; have z9 := zb.1 9 _ rfl; have z10 := zb.1 10 _ rfl; have z11 := zb.1 11 _ rfl; have z12 := zb.1 12 _ rfl; have z13 := zb.1 13 _ rfl; have z14 := zb.1 14 _ rfl; have z15 := zb.1 15 _ rfl; clear zb)
         | (go_at_call 6; refine (heavyS_any n1 n2 n3 n4 n5 o1 p1 o2 p2 o3 p3 o4 p4 o5 p5 l1 c1 m1 k1 l2 c2 m2 k2 l3 c3 m3 k3 l4 c4 m4 k4 l5 c5 m5 k5 N _ false HH.out).mono ?_; rintro e w1 ⟨rfl, hb1⟩; clear z0 z1 z2 z3 z4 z5 z6 z7 z8 z9 z10 z11 z12 z13 z14 z15; have zb := hP.later hb1 (by omega); have z0 := zb.1 0 _ rfl; have z1 := zb.1 1 _ rfl; have z2 := zb.1 2 _ rfl; have z3 := zb.1 3 _ rfl; have z4 := zb.1 4 _ rfl; have z5 := zb.1 5 _ rfl; have z6 := zb.1 6 _ rfl; have z7 := zb.1 7 _ rfl; have z8 := zb.1 8 _ rfl; have z9 := zb.1 9 _ rfl; have z10 := zb.1 10 _ rfl; have z11 := zb.1 11 _ rfl; have z12 := zb.1 12 _ rfl; have z13 := zb.1 13 _ rfl; have z14 := zb.1 14 _ rfl; have z15 := zb.1 15 _ rfl; clear zb))
        go_roundw
        case rel => exact ⟨k + 1, by omega, by omega, by go_num, bnext hbW hb4⟩
        case measure => simp [intOf]; omega
       ·
        obtain ⟨a1, a2, ha1, ha2, sa1, sa2, hle⟩ := hS' rfl
        obtain ⟨a3, a4, ha3, ha4, sa3, sa4, hle'⟩ := hT' rfl
        obtain ⟨a5, ha5, _⟩ := rat_of_may HX.out.2.2.2.2.1 HX.out.2.2.2.2.2.1 HX.out.2.2.2.2.2.2.1 HX.out.2.2.2.2.2.2.2 hm
        have HM : Hid (mayR n5 x5 d5 = true) := hm
        have HR : Hid ((RatAt W n1 o1 l1 c1 p1 m1 k1 a1 ∧ RatAt W n2 o2 l2 c2 p2 m2 k2 a2) ∧ (RatAt W n3 o3 l3 c3 p3 m3 k3 a3 ∧ RatAt W n4 o4 l4 c4 p4 m4 k4 a4) ∧ RatAt W n5 o5 l5 c5 p5 m5 k5 a5) := ⟨⟨ha1, ha2⟩, ⟨ha3, ha4⟩, ha5⟩
        have HZ : Hid ((Sz a1 4 ∧ Sz a2 4) ∧ (Sz a3 4 ∧ Sz a4 4) ∧ Sz a5 4) := ⟨⟨sa1, sa2⟩, ⟨sa3, sa4⟩, ha5.sz hl5 hm5⟩
        have HLE : Hid (cmpQ a1 a2 ≤ 0 ∧ cmpQ a3 a4 ≤ 0) := ⟨hle, hle'⟩
        have HMZ : Hid (Sz ((a1 + a2) * half2) 200 ∧ Sz ((a1 + a4) * half2) 200 ∧ Sz (maxQ a1 a3) 200 ∧ Sz (minQ a2 a4) 200) := ⟨((sa1.add sa2).mul sz_half2).mono (by decide), ((sa1.add sa4).mul sz_half2).mono (by decide), (sa1.max sa3).mono (by decide), (sa2.min sa4).mono (by decide)⟩
        obtain ⟨so, hso⟩ : ∃ so, decide (cmpQ (maxQ a1 a3) (minQ a2 a4) ≤ 0) = so := ⟨_, rfl⟩
        have HSO : Hid (decide (cmpQ (maxQ a1 a3) (minQ a2 a4) ≤ 0) = so) := hso
        clear hS' hT' ha1 ha2 ha3 ha4 ha5 sa1 sa2 sa3 sa4 hle hle' hm hso
        go_upto_region 8 with (first
         | (go_at_call 33; refine (qmay_any n5 o5 p5 l5 c5 m5 k5 x5 d5 _ (HX.out.2.2.2.2.1.later hb3) HX.out.2.2.2.2.2.1 (HX.out.2.2.2.2.2.2.1.later hb3) HX.out.2.2.2.2.2.2.2 (by omega) (by omega) true HM.out).mono ?_; rintro e w4 ⟨rfl, hb⟩; have hb4 := bnext hb3 hb; clear hb hb3 z0 z1 z2 z3 z4 z5 z6 z7 z8 z9 z10 z11 z12 z13 z14 z15; have zb := hP.later hb4 (by omega); have z0 := zb.1 0 _ rfl; have z1 := zb.1 1 _ rfl; have z2 := zb.1 2 _ rfl; have z3 := zb.1 3 _ rfl; have z4 := zb.1 4 _ rfl; have z5 := zb.1 5 _ rfl; have z6 := zb.1 6 _ rfl; have z7 := zb.1 7 _ rfl; have z8 := zb.1 8 _ rfl; have z9 := zb.1 9 _ rfl; have z10 := zb.1 10 _ rfl; have z11 := zb.1 11 _ rfl; have z12 := zb.1 12 _ rfl; have z13 := zb.1 13 _ rfl; have z14 := zb.1 14 _ rfl; have z15 := zb.1 15 _ rfl; clear zb)
         | (go_at_call 7; have _t := hb2; refine (HTT.out _ hb2).mono ?_; rintro e w3 ⟨rfl, hb⟩; have hb3 := bnext hb2 hb; clear hb hb2 z0 z1 z2 z3 z4 z5 z6 z7 z8 z9 z10 z11 z12 z13 z14 z15; have zb := hP.later hb3 (by omega); have z0 := zb.1 0 _ rfl; have z1 := zb.1 1 _ rfl; have z2 := zb.1 2 _ rfl; have z3 := zb.1 3 _ rfl; have z4 := zb.1 4 _ rfl; have z5 := zb.1 5 _ rfl; have z6 := zb.1 6 _ rfl; have z7 := zb.1 7 _ rfl; have z8 := zb.1 8 _ rfl; have z9 := zb.1 9 _ rfl; have z10 := zb.1 10 _ rfl; have z11 := zb.1 11 _ rfl; have z12 := zb.1 12 _ rfl; have z13 := zb.1 13 _ rfl; have z14 := zb.1 14 _ rfl; have z15 := zb.1 15 _ rfl; clear zb)
         | (go_at_call 7; have _t := hb1; refine (HS.out _ hb1).mono ?_; rintro e w2 ⟨rfl, hb⟩; have hb2 := bnext hb1 hb; clear hb hb1 z0 z1 z2 z3 z4 z5 z6 z7 z8 z9 z10 z11 z12 z13 z14 z15; have zb := hP.later hb2 (by omega); have z0 := zb.1 0 _ rfl; have z1 := zb.1 1 _ rfl; have z2 := zb.1 2 _ rfl; have z3 := zb.1 3 _ rfl; have z4 := zb.1 4 _ rfl; have z5 := zb.1 5 _ rfl; have z6 := zb.1 6 _ rfl; have z7 := zb.1 7 _ rfl; have z8 := zb.1 8 _ rfl; have z9 := zb.1 9 _ rfl; have z10 := zb.1 10 _ rfl; have z11 := zb.1 11 _ rfl; have z12 := zb.1 12 _ rfl; have z13 := zb.1 13 _ rfl; have z14 := zb.1 14 _ rfl; have z15 := zb.1 15 _ rfl; clear zb)
         | (go_at_call 6; refine (heavyS_any n1 n2 n3 n4 n5 o1 p1 o2 p2 o3 p3 o4 p4 o5 p5 l1 c1 m1 k1 l2 c2 m2 k2 l3 c3 m3 k3 l4 c4 m4 k4 l5 c5 m5 k5 N _ false HH.out).mono ?_; rintro e w1 ⟨rfl, hb1⟩; clear z0 z1 z2 z3 z4 z5 z6 z7 z8 z9 z10 z11 z12 z13 z14 z15; have zb := hP.later hb1 (by omega); have z0 := zb.1 0 _ rfl; have z1 := zb.1 1 _ rfl; have z2 := zb.1 2 _ rfl; have z3 := zb.1 3 _ rfl; have z4 := zb.1 4 _ rfl; have z5 := zb.1 5 _ rfl; have z6 := zb.1 6 _ rfl; have z7 := zb.1 7 _ rfl; have z8 := zb.1 8 _ rfl; have z9 := zb.1 9 _ rfl; have z10 := zb.1 10 _ rfl; have z11 := zb.1 11 _ rfl; have z12 := zb.1 12 _ rfl; have z13 := zb.1 13 _ rfl; have z14 := zb.1 14 _ rfl; have z15 := zb.1 15 _ rfl; clear zb))
        clear HS HTT HX HM HH
        go_cut [5, 6, 7] (fun s5 s6 s7 wx => ∃ r5 n6 o6 l6 c6 p6 m6 k6 n7 o7 l7 c7 p7 m7 k7, s5 = .pointer (some ⟨r5, 0, none⟩) ∧ s6 = .bool so ∧ s7 = .int .i64 0 ∧ Bx wx r5 [.bool n6, .slice o6 l6 c6, .slice p6 m6 k6, .bool n7, .slice o7 l7 c7, .slice p7 m7 k7] ∧ (so = true → RatAt wx n6 o6 l6 c6 p6 m6 k6 (maxQ a1 a3) ∧ RatAt wx n7 o7 l7 c7 p7 m7 k7 (minQ a2 a4)) ∧ Below W.heap.size W wx)
        case first => as_aux_lemma =>
         go_wp2_with (go_at_call 23; refine (smeet_any n1 n2 n3 n4 o1 p1 o2 p2 o3 p3 o4 p4 l1 c1 m1 k1 l2 c2 m2 k2 l3 c3 m3 k3 l4 c4 m4 k4 a1 a2 a3 a4 _ (HR.out.1.1.later hb4) (HR.out.1.2.later hb4) (HR.out.2.1.1.later hb4) (HR.out.2.1.2.later hb4) (HZ.out.1.1.mono (by decide)) (HZ.out.1.2.mono (by decide)) (HZ.out.2.1.1.mono (by decide)) (HZ.out.2.1.2.mono (by decide)) HLE.out.1 HLE.out.2 (tab_later HTW.out hb4) so HSO.out).mono ?_; rintro e y ⟨n6, o6, l6, c6, p6, m6, k6, n7, o7, l7, c7, p7, m7, k7, rfl, hb, hn⟩; have HN : Hid ((so = true → RatAt y n6 o6 l6 c6 p6 m6 k6 (maxQ a1 a3) ∧ RatAt y n7 o7 l7 c7 p7 m7 k7 (minQ a2 a4)) ∧ Below W.heap.size W y) := ⟨fun h => ⟨(hn h).lo, (hn h).hi⟩, bnext hb4 hb⟩; clear hn hb)
         go_meet
         exact ⟨_, n6, o6, l6, c6, p6, m6, k6, n7, o7, l7, c7, p7, m7, k7, rfl, rfl, rfl, Bx.new _ _ _, fun h => ⟨(HN.out.1 h).1.later ((Below.refl _ _).alloc (Nat.le_refl _) _), (HN.out.1 h).2.later ((Below.refl _ _).alloc (Nat.le_refl _) _)⟩, below_alloc HN.out.2 (Nat.le_refl _)⟩
        case rest =>
         clear z0 z1 z2 z3 z4 z5 z6 z7 z8 z9 z10 z11 z12 z13 z14 z15 hb4
         obtain ⟨r5, n6, o6, l6, c6, p6, m6, k6, n7, o7, l7, c7, p7, m7, k7, rfl, rfl, rfl, hb5, h6, hbX⟩ := hcut
         obtain ⟨X5, hX⟩ : ∃ X, X = wc := ⟨_, rfl⟩
         rw [← hX] at hb5 h6 hbX
         rw [← hX]
         clear hX
         have H5 : Hid (Bx X5 r5 [.bool n6, .slice o6 l6 c6, .slice p6 m6 k6, .bool n7, .slice o7 l7 c7, .slice p7 m7 k7] ∧ (so = true → RatAt X5 n6 o6 l6 c6 p6 m6 k6 (maxQ a1 a3) ∧ RatAt X5 n7 o7 l7 c7 p7 m7 k7 (minQ a2 a4)) ∧ Below W.heap.size W X5) := ⟨hb5, h6, hbX⟩
         have hlt5 := hb5.lt
         have zb := hP.later hbX (by omega); have z0 := zb.1 0 _ rfl; have z1 := zb.1 1 _ rfl; have z2 := zb.1 2 _ rfl; have z3 := zb.1 3 _ rfl; have z4 := zb.1 4 _ rfl; have z5 := zb.1 5 _ rfl; have z6 := zb.1 6 _ rfl; have z7 := zb.1 7 _ rfl; have z8 := zb.1 8 _ rfl; have z9 := zb.1 9 _ rfl; have z10 := zb.1 10 _ rfl; have z11 := zb.1 11 _ rfl; have z12 := zb.1 12 _ rfl; have z13 := zb.1 13 _ rfl; have z14 := zb.1 14 _ rfl; have z15 := zb.1 15 _ rfl; clear zb
         clear hb5 h6 hbX
         go_upto_region 9 with fail
         go_cut [8, 9, 10] (fun s8 s9 s10 wx => ∃ r8 r9 n8 o8 l8 c8 p8 m8 k8 n9 o9 l9 c9 p9 m9 k9 n10 o10 l10 c10 p10 m10 k10 n11 o11 l11 c11 p11 m11 k11, s8 = .pointer (some ⟨r8, 0, none⟩) ∧ s9 = .pointer (some ⟨r9, 0, none⟩) ∧ s10 = .int .i64 0 ∧ Bx wx r8 [.bool n8, .slice o8 l8 c8, .slice p8 m8 k8, .bool n9, .slice o9 l9 c9, .slice p9 m9 k9] ∧ Bx wx r9 [.bool n10, .slice o10 l10 c10, .slice p10 m10 k10, .bool n11, .slice o11 l11 c11, .slice p11 m11 k11] ∧ (RatAt wx n8 o8 l8 c8 p8 m8 k8 a1 ∧ RatAt wx n9 o9 l9 c9 p9 m9 k9 ((a1 + a2) * half2)) ∧ (RatAt wx n10 o10 l10 c10 p10 m10 k10 ((a1 + a2) * half2) ∧ RatAt wx n11 o11 l11 c11 p11 m11 k11 a2) ∧ Below X5.heap.size X5 wx)
         case first => as_aux_lemma =>
          go_wp2_with (go_at_call 24; refine (shalves_any n1 n2 o1 p1 o2 p2 l1 c1 m1 k1 l2 c2 m2 k2 a1 a2 _ (HR.out.1.1.later H5.out.2.2) (HR.out.1.2.later H5.out.2.2) (HZ.out.1.1.mono (by decide)) (HZ.out.1.2.mono (by decide)) HLE.out.1 (tab_later HTW.out H5.out.2.2)).mono ?_; rintro e y ⟨n8, o8, l8, c8, p8, m8, k8, n9, o9, l9, c9, p9, m9, k9, n10, o10, l10, c10, p10, m10, k10, n11, o11, l11, c11, p11, m11, k11, rfl, hn, hn'⟩; have HN : Hid ((RatAt y n8 o8 l8 c8 p8 m8 k8 a1 ∧ RatAt y n9 o9 l9 c9 p9 m9 k9 ((a1 + a2) * half2)) ∧ (RatAt y n10 o10 l10 c10 p10 m10 k10 ((a1 + a2) * half2) ∧ RatAt y n11 o11 l11 c11 p11 m11 k11 a2) ∧ Below X5.heap.size X5 y) := ⟨⟨hn.lo, hn.hi⟩, ⟨hn'.lo, hn'.hi⟩, hn.2.2.2⟩; clear hn hn')
          go_meet
          have q1 : Below y.heap.size y (y.alloc (.cells #[.bool n8, .slice o8 l8 c8, .slice p8 m8 k8, .bool n9, .slice o9 l9 c9, .slice p9 m9 k9] 30)) := (Below.refl _ _).alloc (Nat.le_refl _) _
          have q2 : Below (y.alloc (.cells #[.bool n8, .slice o8 l8 c8, .slice p8 m8 k8, .bool n9, .slice o9 l9 c9, .slice p9 m9 k9] 30)).heap.size (y.alloc (.cells #[.bool n8, .slice o8 l8 c8, .slice p8 m8 k8, .bool n9, .slice o9 l9 c9, .slice p9 m9 k9] 30)) ((y.alloc (.cells #[.bool n8, .slice o8 l8 c8, .slice p8 m8 k8, .bool n9, .slice o9 l9 c9, .slice p9 m9 k9] 30)).alloc (.cells #[.bool n10, .slice o10 l10 c10, .slice p10 m10 k10, .bool n11, .slice o11 l11 c11, .slice p11 m11 k11] 30)) := (Below.refl _ _).alloc (Nat.le_refl _) _
          have q4 := Bx.new (y.alloc (.cells #[.bool n8, .slice o8 l8 c8, .slice p8 m8 k8, .bool n9, .slice o9 l9 c9, .slice p9 m9 k9] 30)) [.bool n10, .slice o10 l10 c10, .slice p10 m10 k10, .bool n11, .slice o11 l11 c11, .slice p11 m11 k11] 30
          have q5 := (Bx.new y [.bool n8, .slice o8 l8 c8, .slice p8 m8 k8, .bool n9, .slice o9 l9 c9, .slice p9 m9 k9] 30)
          have q3 := bnext q1 q2
          rw [show (y.alloc (.cells #[.bool n8, .slice o8 l8 c8, .slice p8 m8 k8, .bool n9, .slice o9 l9 c9, .slice p9 m9 k9] 30)).heap.size = y.heap.size + 1 by simp] at q4
          exact ⟨_, _, n8, o8, l8, c8, p8, m8, k8, n9, o9, l9, c9, p9, m9, k9, n10, o10, l10, c10, p10, m10, k10, n11, o11, l11, c11, p11, m11, k11, rfl, rfl, rfl, q5.later q2 q5.lt, q4, ⟨HN.out.1.1.later q3, HN.out.1.2.later q3⟩, ⟨HN.out.2.1.1.later q3, HN.out.2.1.2.later q3⟩, bnext HN.out.2.2 q3⟩
         case rest =>
          clear z0 z1 z2 z3 z4 z5 z6 z7 z8 z9 z10 z11 z12 z13 z14 z15
          obtain ⟨r8, r9, n8, o8, l8, c8, p8, m8, k8, n9, o9, l9, c9, p9, m9, k9, n10, o10, l10, c10, p10, m10, k10, n11, o11, l11, c11, p11, m11, k11, rfl, rfl, rfl, hb8, hb9, h8, h9, hbX⟩ := hcut
          obtain ⟨X9, hX⟩ : ∃ X, X = wc := ⟨_, rfl⟩
          rw [← hX] at hb8 hb9 h8 h9 hbX
          rw [← hX]
          clear hX
          have H9 : Hid ((Bx X9 r8 [.bool n8, .slice o8 l8 c8, .slice p8 m8 k8, .bool n9, .slice o9 l9 c9, .slice p9 m9 k9] ∧ Bx X9 r9 [.bool n10, .slice o10 l10 c10, .slice p10 m10 k10, .bool n11, .slice o11 l11 c11, .slice p11 m11 k11] ∧ Bx X9 r5 [.bool n6, .slice o6 l6 c6, .slice p6 m6 k6, .bool n7, .slice o7 l7 c7, .slice p7 m7 k7]) ∧ (RatAt X9 n8 o8 l8 c8 p8 m8 k8 a1 ∧ RatAt X9 n9 o9 l9 c9 p9 m9 k9 ((a1 + a2) * half2)) ∧ (RatAt X9 n10 o10 l10 c10 p10 m10 k10 ((a1 + a2) * half2) ∧ RatAt X9 n11 o11 l11 c11 p11 m11 k11 a2) ∧ (so = true → RatAt X9 n6 o6 l6 c6 p6 m6 k6 (maxQ a1 a3) ∧ RatAt X9 n7 o7 l7 c7 p7 m7 k7 (minQ a2 a4)) ∧ Below W.heap.size W X9) := ⟨⟨hb8, hb9, H5.out.1.later hbX hlt5⟩, h8, h9, fun h => ⟨(H5.out.2.1 h).1.later hbX, (H5.out.2.1 h).2.later hbX⟩, bnext H5.out.2.2 hbX⟩
          clear hb8 hb9 h8 h9 hbX H5 hlt5
          go_upto_region 12 with (go_at_call 15; refine (num3_any 0 _).mono ?_; rintro e xn ⟨rfl, hxn⟩; replace hxn := hxn.symm; subst hxn)
          have KX : Hid (∀ w' : World, Below X9.heap.size X9 w' → w'.cell? ⟨rP, 0, none⟩ = some (.bool n1) ∧ w'.cell? ⟨rP, 1, none⟩ = some (.slice o1 l1 c1) ∧ w'.cell? ⟨rP, 2, none⟩ = some (.slice p1 m1 k1) ∧ w'.cell? ⟨rP, 3, none⟩ = some (.bool n2) ∧ w'.cell? ⟨rP, 4, none⟩ = some (.slice o2 l2 c2) ∧ w'.cell? ⟨rP, 5, none⟩ = some (.slice p2 m2 k2) ∧ w'.cell? ⟨rP, 6, none⟩ = some (.bool n3) ∧ w'.cell? ⟨rP, 7, none⟩ = some (.slice o3 l3 c3) ∧ w'.cell? ⟨rP, 8, none⟩ = some (.slice p3 m3 k3) ∧ w'.cell? ⟨rP, 9, none⟩ = some (.bool n4) ∧ w'.cell? ⟨rP, 10, none⟩ = some (.slice o4 l4 c4) ∧ w'.cell? ⟨rP, 11, none⟩ = some (.slice p4 m4 k4) ∧ w'.cell? ⟨rP, 12, none⟩ = some (.bool n5) ∧ w'.cell? ⟨rP, 13, none⟩ = some (.slice o5 l5 c5) ∧ w'.cell? ⟨rP, 14, none⟩ = some (.slice p5 m5 k5)) := fun w' h => (by have zb := hP.later (bnext H9.out.2.2.2.2 h) (by omega); exact ⟨zb.1 0 _ rfl, zb.1 1 _ rfl, zb.1 2 _ rfl, zb.1 3 _ rfl, zb.1 4 _ rfl, zb.1 5 _ rfl, zb.1 6 _ rfl, zb.1 7 _ rfl, zb.1 8 _ rfl, zb.1 9 _ rfl, zb.1 10 _ rfl, zb.1 11 _ rfl, zb.1 12 _ rfl, zb.1 13 _ rfl, zb.1 14 _ rfl⟩)
          go_cut [11] (fun s11 wx => ∃ g n12 o12 l12 c12 p12 m12 k12, s11 = .slice (some ⟨g, 0, none⟩) 6 6 ∧ Bx wx g [.bool n5, .slice o5 l5 c5, .slice p5 m5 k5, .bool n1, .slice o1 l1 c1, .slice p1 m1 k1, .bool n2, .slice o2 l2 c2, .slice p2 m2 k2, .bool n3, .slice o3 l3 c3, .slice p3 m3 k3, .bool n4, .slice o4 l4 c4, .slice p4 m4 k4, .bool n12, .slice o12 l12 c12, .slice p12 m12 k12] ∧ RatAt wx n12 o12 l12 c12 p12 m12 k12 ((a1 + a4) * half2) ∧ Below X9.heap.size X9 wx)
          case first =>
           refine wp_region_noPanic ?_
           refine wp_region_held_drew (S := fun w' => (w'.cell? ⟨rP, 0, none⟩ = some (.bool n1) ∧ w'.cell? ⟨rP, 1, none⟩ = some (.slice o1 l1 c1) ∧ w'.cell? ⟨rP, 2, none⟩ = some (.slice p1 m1 k1) ∧ w'.cell? ⟨rP, 3, none⟩ = some (.bool n2) ∧ w'.cell? ⟨rP, 4, none⟩ = some (.slice o2 l2 c2) ∧ w'.cell? ⟨rP, 5, none⟩ = some (.slice p2 m2 k2) ∧ w'.cell? ⟨rP, 6, none⟩ = some (.bool n3) ∧ w'.cell? ⟨rP, 7, none⟩ = some (.slice o3 l3 c3) ∧ w'.cell? ⟨rP, 8, none⟩ = some (.slice p3 m3 k3) ∧ w'.cell? ⟨rP, 9, none⟩ = some (.bool n4) ∧ w'.cell? ⟨rP, 10, none⟩ = some (.slice o4 l4 c4) ∧ w'.cell? ⟨rP, 11, none⟩ = some (.slice p4 m4 k4) ∧ w'.cell? ⟨rP, 12, none⟩ = some (.bool n5) ∧ w'.cell? ⟨rP, 13, none⟩ = some (.slice o5 l5 c5) ∧ w'.cell? ⟨rP, 14, none⟩ = some (.slice p5 m5 k5))) (by kernel_rfl) (by (try dsimp only); exact KX.out _ (Below.refl _ _).drew) (fun hHeld => ?_)
           refine wpAnyH_take (i := 0) (oi := Oper.mk (some 79) _ _ _ _ _) (v := ?_) rfl (by decide +kernel) (by decide +kernel) (by decide +kernel) (fun _ _ _ h => h) (Or.inl ⟨by rfl, ?_⟩) (by assumption) ?_
           rotate_left
           ·
            (intro w hSw; (try dsimp only at hSw); go_simp <;> (try with_reducible rfl))
           (try simp only [Act.put, List.setIfInBounds_toArray, List.set_cons_zero, List.set_cons_succ])
           refine wpAnyH_take (i := 1) (oi := Oper.mk (some 80) _ _ _ _ _) (v := ?_) rfl (by decide +kernel) (by decide +kernel) (by decide +kernel) (fun _ _ _ h => h) (Or.inl ⟨by rfl, ?_⟩) (by assumption) ?_
           rotate_left
           ·
            (intro w hSw; (try dsimp only at hSw); go_simp <;> (try with_reducible rfl))
           (try simp only [Act.put, List.setIfInBounds_toArray, List.set_cons_zero, List.set_cons_succ])
           refine wpAnyH_take (i := 2) (oi := Oper.mk (some 81) _ _ _ _ _) (v := ?_) rfl (by decide +kernel) (by decide +kernel) (by decide +kernel) (fun _ _ _ h => h) (Or.inl ⟨by rfl, ?_⟩) (by assumption) ?_
           rotate_left
           ·
            (intro w hSw; (try dsimp only at hSw); go_simp <;> (try with_reducible rfl))
           (try simp only [Act.put, List.setIfInBounds_toArray, List.set_cons_zero, List.set_cons_succ])
           refine wpAnyH_take (i := 3) (oi := Oper.mk (some 82) _ _ _ _ _) (v := ?_) rfl (by decide +kernel) (by decide +kernel) (by decide +kernel) (fun _ _ _ h => h) (Or.inl ⟨by rfl, ?_⟩) (by assumption) ?_
           rotate_left
           ·
            (intro w hSw; (try dsimp only at hSw); go_simp <;> (try with_reducible rfl))
           (try simp only [Act.put, List.setIfInBounds_toArray, List.set_cons_zero, List.set_cons_succ])
           refine wpAnyH_take (i := 4) (oi := Oper.mk (some 83) _ _ _ _ _) (v := ?_) rfl (by decide +kernel) (by decide +kernel) (by decide +kernel) (fun _ _ _ h => h) (Or.inl ⟨by rfl, ?_⟩) (by assumption) ?_
           rotate_left
           ·
            (intro w hSw; (try dsimp only at hSw); go_simp <;> (try with_reducible rfl))
           (try simp only [Act.put, List.setIfInBounds_toArray, List.set_cons_zero, List.set_cons_succ])
           refine wpAnyH_take (i := 5) (oi := Oper.mk (some 84) _ _ _ _ _) (v := ?_) rfl (by decide +kernel) (by decide +kernel) (by decide +kernel) (fun _ _ _ h => h) (Or.inl ⟨by rfl, ?_⟩) (by assumption) ?_
           rotate_left
           ·
            (intro w hSw; (try dsimp only at hSw); go_simp <;> (try with_reducible rfl))
           (try simp only [Act.put, List.setIfInBounds_toArray, List.set_cons_zero, List.set_cons_succ])
           refine wpAnyH_take (i := 6) (oi := Oper.mk (some 85) _ _ _ _ _) (v := ?_) rfl (by decide +kernel) (by decide +kernel) (by decide +kernel) (fun _ _ _ h => h) (Or.inl ⟨by rfl, ?_⟩) (by assumption) ?_
           rotate_left
           ·
            (intro w hSw; (try dsimp only at hSw); go_simp <;> (try with_reducible rfl))
           (try simp only [Act.put, List.setIfInBounds_toArray, List.set_cons_zero, List.set_cons_succ])
           refine wpAnyH_take (i := 7) (oi := Oper.mk (some 86) _ _ _ _ _) (v := ?_) rfl (by decide +kernel) (by decide +kernel) (by decide +kernel) (fun _ _ _ h => h) (Or.inl ⟨by rfl, ?_⟩) (by assumption) ?_
           rotate_left
           ·
            (intro w hSw; (try dsimp only at hSw); go_simp <;> (try with_reducible rfl))
           (try simp only [Act.put, List.setIfInBounds_toArray, List.set_cons_zero, List.set_cons_succ])
           refine wpAnyH_take (i := 8) (oi := Oper.mk (some 87) _ _ _ _ _) (v := ?_) rfl (by decide +kernel) (by decide +kernel) (by decide +kernel) (fun _ _ _ h => h) (Or.inl ⟨by rfl, ?_⟩) (by assumption) ?_
           rotate_left
           ·
            (intro w hSw; (try dsimp only at hSw); go_simp <;> (try with_reducible rfl))
           (try simp only [Act.put, List.setIfInBounds_toArray, List.set_cons_zero, List.set_cons_succ])
           refine wpAnyH_take (i := 9) (oi := Oper.mk (some 88) _ _ _ _ _) (v := ?_) rfl (by decide +kernel) (by decide +kernel) (by decide +kernel) (fun _ _ _ h => h) (Or.inl ⟨by rfl, ?_⟩) (by assumption) ?_
           rotate_left
           ·
            (intro w hSw; (try dsimp only at hSw); go_simp <;> (try with_reducible rfl))
           (try simp only [Act.put, List.setIfInBounds_toArray, List.set_cons_zero, List.set_cons_succ])
           refine wpAnyH_take (i := 10) (oi := Oper.mk (some 89) _ _ _ _ _) (v := ?_) rfl (by decide +kernel) (by decide +kernel) (by decide +kernel) (fun _ _ _ h => h) (Or.inl ⟨by rfl, ?_⟩) (by assumption) ?_
           rotate_left
           ·
            (intro w hSw; (try dsimp only at hSw); go_simp <;> (try with_reducible rfl))
           (try simp only [Act.put, List.setIfInBounds_toArray, List.set_cons_zero, List.set_cons_succ])
           refine wpAnyH_take (i := 11) (oi := Oper.mk (some 90) _ _ _ _ _) (v := ?_) rfl (by decide +kernel) (by decide +kernel) (by decide +kernel) (fun _ _ _ h => h) (Or.inl ⟨by rfl, ?_⟩) (by assumption) ?_
           rotate_left
           ·
            (intro w hSw; (try dsimp only at hSw); go_simp <;> (try with_reducible rfl))
           (try simp only [Act.put, List.setIfInBounds_toArray, List.set_cons_zero, List.set_cons_succ])
           refine wpAnyH_take (i := 12) (oi := Oper.mk (some 91) _ _ _ _ _) (v := ?_) rfl (by decide +kernel) (by decide +kernel) (by decide +kernel) (fun _ _ _ h => h) (Or.inl ⟨by rfl, ?_⟩) (by assumption) ?_
           rotate_left
           ·
            (intro w hSw; (try dsimp only at hSw); go_simp <;> (try with_reducible rfl))
           (try simp only [Act.put, List.setIfInBounds_toArray, List.set_cons_zero, List.set_cons_succ])
           refine wpAnyH_take (i := 13) (oi := Oper.mk (some 92) _ _ _ _ _) (v := ?_) rfl (by decide +kernel) (by decide +kernel) (by decide +kernel) (fun _ _ _ h => h) (Or.inl ⟨by rfl, ?_⟩) (by assumption) ?_
           rotate_left
           ·
            (intro w hSw; (try dsimp only at hSw); go_simp <;> (try with_reducible rfl))
           (try simp only [Act.put, List.setIfInBounds_toArray, List.set_cons_zero, List.set_cons_succ])
           refine wpAnyH_take (i := 14) (oi := Oper.mk (some 93) _ _ _ _ _) (v := ?_) rfl (by decide +kernel) (by decide +kernel) (by decide +kernel) (fun _ _ _ h => h) (Or.inl ⟨by rfl, ?_⟩) (by assumption) ?_
           rotate_left
           ·
            (intro w hSw; (try dsimp only at hSw); go_simp <;> (try with_reducible rfl))
           (try simp only [Act.put, List.setIfInBounds_toArray, List.set_cons_zero, List.set_cons_succ])
           refine wpAnyH_take (i := 15) (oi := Oper.mk (some 94) _ _ _ _ _) (v := ?_) rfl (by decide +kernel) (by decide +kernel) (by decide +kernel) (fun _ _ _ h => h) (Or.inl ⟨by rfl, ?_⟩) (by assumption) ?_
           rotate_left
           ·
            (intro w hSw; (try dsimp only at hSw); go_simp <;> (try with_reducible rfl))
           (try simp only [Act.put, List.setIfInBounds_toArray, List.set_cons_zero, List.set_cons_succ])
           refine wpAnyH_take (i := 16) (oi := Oper.mk (some 95) _ _ _ _ _) (v := ?_) rfl (by decide +kernel) (by decide +kernel) (by decide +kernel) (fun _ _ _ h => h) (Or.inl ⟨by rfl, ?_⟩) (by assumption) ?_
           rotate_left
           ·
            (intro w hSw; (try dsimp only at hSw); go_simp <;> (try with_reducible rfl))
           (try simp only [Act.put, List.setIfInBounds_toArray, List.set_cons_zero, List.set_cons_succ])
           refine wpAnyH_take (i := 17) (oi := Oper.mk (some 96) _ _ _ _ _) (v := ?_) rfl (by decide +kernel) (by decide +kernel) (by decide +kernel) (fun _ _ _ h => h) (Or.inl ⟨by rfl, ?_⟩) (by assumption) ?_
           rotate_left
           ·
            (intro w hSw; (try dsimp only at hSw); go_simp <;> (try with_reducible rfl))
           (try simp only [Act.put, List.setIfInBounds_toArray, List.set_cons_zero, List.set_cons_succ])
           refine wpAnyH_take (i := 18) (oi := Oper.mk (some 97) _ _ _ _ _) (v := ?_) rfl (by decide +kernel) (by decide +kernel) (by decide +kernel) (fun _ _ _ h => h) (Or.inl ⟨by rfl, ?_⟩) (by assumption) ?_
           rotate_left
           ·
            (intro w hSw; (try dsimp only at hSw); go_simp <;> (try with_reducible rfl))
           (try simp only [Act.put, List.setIfInBounds_toArray, List.set_cons_zero, List.set_cons_succ])
           refine wpAnyH_take (i := 19) (oi := Oper.mk (some 98) _ _ _ _ _) (v := ?_) rfl (by decide +kernel) (by decide +kernel) (by decide +kernel) (fun _ _ _ h => h) (Or.inl ⟨by rfl, ?_⟩) (by assumption) ?_
           rotate_left
           ·
            (intro w hSw; (try dsimp only at hSw); go_simp <;> (try with_reducible rfl))
           (try simp only [Act.put, List.setIfInBounds_toArray, List.set_cons_zero, List.set_cons_succ])
           refine wpAnyH_ready (rs := [20]) (by decide +kernel) (by simp) ?_
           refine AllReadyH.cons (o := Oper.mk (some 99) _ _ _ _ _) rfl (fun K hK => ?_) AllReadyH.nil
           go_simp
           (go_at_call 13; refine (qmid_any n1 n4 o1 p1 o4 p4 l1 c1 m1 k1 l4 c4 m4 k4 a1 a4 _ (HR.out.1.1.later (bnext H9.out.2.2.2.2 (Below.refl _ _).drew)) (HR.out.2.1.2.later (bnext H9.out.2.2.2.2 (Below.refl _ _).drew)) (HZ.out.1.1.mono (by decide)) (HZ.out.2.1.2.mono (by decide))).mono ?_; rintro e f1 ⟨n12, o12, l12, c12, p12, m12, k12, rfl, hr, hb⟩; have H12 : Hid (RatAt f1 n12 o12 l12 c12 p12 m12 k12 ((a1 + a4) * half2)) := hr; clear hr; have hbF1 : Below X9.heap.size X9 f1 := bnext (Below.refl _ _).drew hb; clear hb)
           (try go_wp2_with fail)
           clear hHeld
           refine hK.out _ _ (by (try dsimp only); first | exact KX.out _ (Below.refl _ _).drew | exact KX.out _ (by assumption)) (fun hHeld => ?_)
           clear hK K
           (try simp only [Act.put, List.setIfInBounds_toArray, List.set_cons_zero, List.set_cons_succ])
           have hbs := ask_build n1 n2 n3 n4 n5 n12 o1 p1 o2 p2 o3 p3 o4 p4 o5 p5 o12 p12 l1 c1 m1 k1 l2 c2 m2 k2 l3 c3 m3 k3 l4 c4 m4 k4 l5 c5 m5 k5 l12 c12 m12 k12
           refine wpAnyH_ready (rs := [21]) (by decide +kernel) (by simp) ?_
           refine AllReadyH.cons (o := Oper.mk (some 100) _ _ _ _ _) rfl (fun K hK => ?_) AllReadyH.nil
           go_simp
           clear hHeld
           refine hK.out _ _ (by (try dsimp only); exact KX.out _ (below_alloc hbF1 (Nat.le_refl _))) (fun hHeld => ?_)
           clear hK K
           (try simp only [Act.put, List.setIfInBounds_toArray, List.set_cons_zero, List.set_cons_succ])
           refine wpAnyH_take (i := 22) (oi := Oper.mk (some 11) _ _ _ _ _) (v := ?_) rfl (by decide +kernel) (by decide +kernel) (by decide +kernel) (fun _ _ _ h => h) (Or.inl ⟨by rfl, ?_⟩) (by assumption) ?_
           rotate_left
           ·
            (intro w hSw; (try dsimp only at hSw); go_simp <;> (try with_reducible rfl))
           (try simp only [Act.put, List.setIfInBounds_toArray, List.set_cons_zero, List.set_cons_succ])
           refine wpAnyH_done (by decide +kernel) ?_ _
           refine NoPanic.normal ?_
           go_wp2
           go_meet
           exact ⟨_, n12, o12, l12, c12, p12, m12, k12, rfl, Bx.new _ _ _, H12.out.later ((Below.refl _ _).alloc (Nat.le_refl _) _), below_alloc hbF1 (Nat.le_refl _)⟩
          case rest =>
           obtain ⟨g, n12, o12, l12, c12, p12, m12, k12, rfl, hbg, h12, hbX⟩ := hcut
           obtain ⟨XL, hX⟩ : ∃ X, X = wc := ⟨_, rfl⟩
           rw [← hX] at hbg h12 hbX
           rw [← hX]
           clear hX
           have HL : Hid ((Bx XL r8 [.bool n8, .slice o8 l8 c8, .slice p8 m8 k8, .bool n9, .slice o9 l9 c9, .slice p9 m9 k9] ∧ Bx XL r9 [.bool n10, .slice o10 l10 c10, .slice p10 m10 k10, .bool n11, .slice o11 l11 c11, .slice p11 m11 k11] ∧ Bx XL r5 [.bool n6, .slice o6 l6 c6, .slice p6 m6 k6, .bool n7, .slice o7 l7 c7, .slice p7 m7 k7] ∧ Bx XL g [.bool n5, .slice o5 l5 c5, .slice p5 m5 k5, .bool n1, .slice o1 l1 c1, .slice p1 m1 k1, .bool n2, .slice o2 l2 c2, .slice p2 m2 k2, .bool n3, .slice o3 l3 c3, .slice p3 m3 k3, .bool n4, .slice o4 l4 c4, .slice p4 m4 k4, .bool n12, .slice o12 l12 c12, .slice p12 m12 k12]) ∧ (RatAt XL n8 o8 l8 c8 p8 m8 k8 a1 ∧ RatAt XL n9 o9 l9 c9 p9 m9 k9 ((a1 + a2) * half2)) ∧ (RatAt XL n10 o10 l10 c10 p10 m10 k10 ((a1 + a2) * half2) ∧ RatAt XL n11 o11 l11 c11 p11 m11 k11 a2) ∧ (so = true → RatAt XL n6 o6 l6 c6 p6 m6 k6 (maxQ a1 a3) ∧ RatAt XL n7 o7 l7 c7 p7 m7 k7 (minQ a2 a4)) ∧ RatAt XL n12 o12 l12 c12 p12 m12 k12 ((a1 + a4) * half2) ∧ Below W.heap.size W XL) := ⟨⟨H9.out.1.1.later hbX H9.out.1.1.lt, H9.out.1.2.1.later hbX H9.out.1.2.1.lt, H9.out.1.2.2.later hbX H9.out.1.2.2.lt, hbg⟩, ⟨H9.out.2.1.1.later hbX, H9.out.2.1.2.later hbX⟩, ⟨H9.out.2.2.1.1.later hbX, H9.out.2.2.1.2.later hbX⟩, fun h => ⟨(H9.out.2.2.2.1 h).1.later hbX, (H9.out.2.2.2.1 h).2.later hbX⟩, h12, bnext H9.out.2.2.2.2 hbX⟩
           clear hbg h12 hbX H9 KX
           go_wp2
           go_loopw [12] (fun j wr => ∃ q : Nat, q ≤ 6 ∧ j = .int .i64 (q : Int) ∧ Below XL.heap.size XL wr) (fun j _ => 6 - (intOf j).toNat)
           case atStart => exact ⟨0, by omega, rfl, Below.refl _ _⟩
           case round =>
            obtain ⟨q, hq, rfl, hbq⟩ := hrel
            obtain ⟨Y, hY⟩ : ∃ Y, Y = wr := ⟨_, rfl⟩
            rw [← hY] at hbq
            rw [← hY]
            clear hY
            by_cases hq6 : q < 6
            ·
             as_aux_lemma =>
             have hq6' : (q : Int) < 6 := by omega
             have hBQ : Below W.heap.size W Y := bnext HL.out.2.2.2.2.2 hbq
             obtain ⟨v, n13, o13, l13, c13, p13, m13, k13, hcel, hv13, sv⟩ : ∃ v n13 o13 l13 c13 p13 m13 k13, (∀ w', Below XL.heap.size XL w' → w'.cell? ⟨g, q * 3, none⟩ = some (.bool n13) ∧ w'.cell? ⟨g, q * 3 + 1, none⟩ = some (.slice o13 l13 c13) ∧ w'.cell? ⟨g, q * 3 + 2, none⟩ = some (.slice p13 m13 k13)) ∧ RatAt Y n13 o13 l13 c13 p13 m13 k13 v ∧ Sz v 200 := by
              have hg := HL.out.1.2.2.2
              obtain rfl | rfl | rfl | rfl | rfl | rfl : q = 0 ∨ q = 1 ∨ q = 2 ∨ q = 3 ∨ q = 4 ∨ q = 5 := by omega
              ·
               exact ⟨a5, n5, o5, l5, c5, p5, m5, k5, fun w' h => ⟨(hg.later h hg.lt).1 0 _ rfl, (hg.later h hg.lt).1 1 _ rfl, (hg.later h hg.lt).1 2 _ rfl⟩, HR.out.2.2.later hBQ, HZ.out.2.2.mono (by decide)⟩
              ·
               exact ⟨a1, n1, o1, l1, c1, p1, m1, k1, fun w' h => ⟨(hg.later h hg.lt).1 3 _ rfl, (hg.later h hg.lt).1 4 _ rfl, (hg.later h hg.lt).1 5 _ rfl⟩, HR.out.1.1.later hBQ, HZ.out.1.1.mono (by decide)⟩
              ·
               exact ⟨a2, n2, o2, l2, c2, p2, m2, k2, fun w' h => ⟨(hg.later h hg.lt).1 6 _ rfl, (hg.later h hg.lt).1 7 _ rfl, (hg.later h hg.lt).1 8 _ rfl⟩, HR.out.1.2.later hBQ, HZ.out.1.2.mono (by decide)⟩
              ·
               exact ⟨a3, n3, o3, l3, c3, p3, m3, k3, fun w' h => ⟨(hg.later h hg.lt).1 9 _ rfl, (hg.later h hg.lt).1 10 _ rfl, (hg.later h hg.lt).1 11 _ rfl⟩, HR.out.2.1.1.later hBQ, HZ.out.2.1.1.mono (by decide)⟩
              ·
               exact ⟨a4, n4, o4, l4, c4, p4, m4, k4, fun w' h => ⟨(hg.later h hg.lt).1 12 _ rfl, (hg.later h hg.lt).1 13 _ rfl, (hg.later h hg.lt).1 14 _ rfl⟩, HR.out.2.1.2.later hBQ, HZ.out.2.1.2.mono (by decide)⟩
              ·
               exact ⟨((a1 + a4) * half2), n12, o12, l12, c12, p12, m12, k12, fun w' h => ⟨(hg.later h hg.lt).1 15 _ rfl, (hg.later h hg.lt).1 16 _ rfl, (hg.later h hg.lt).1 17 _ rfl⟩, HL.out.2.2.2.2.1.later hbq, HMZ.out.2.1⟩
             have HV : Hid (RatAt Y n13 o13 l13 c13 p13 m13 k13 v ∧ Sz v 200) := ⟨hv13, sv⟩
             have HCE : Hid (∀ w', Below XL.heap.size XL w' → w'.cell? ⟨g, q * 3, none⟩ = some (.bool n13) ∧ w'.cell? ⟨g, q * 3 + 1, none⟩ = some (.slice o13 l13 c13) ∧ w'.cell? ⟨g, q * 3 + 2, none⟩ = some (.slice p13 m13 k13)) := hcel
             obtain ⟨ba, hba⟩ : ∃ r, hasQ a1 a2 v = r := ⟨_, rfl⟩
             obtain ⟨bb, hbb⟩ : ∃ r, hasQ a3 a4 v = r := ⟨_, rfl⟩
             obtain ⟨bd, hbd⟩ : ∃ r, hasQ a1 ((a1 + a2) * half2) v = r := ⟨_, rfl⟩
             obtain ⟨be, hbe⟩ : ∃ r, hasQ ((a1 + a2) * half2) a2 v = r := ⟨_, rfl⟩
             have HB : Hid (hasQ a1 a2 v = ba ∧ hasQ a3 a4 v = bb ∧ hasQ a1 ((a1 + a2) * half2) v = bd ∧ hasQ ((a1 + a2) * half2) a2 v = be) := ⟨hba, hbb, hbd, hbe⟩
             have HEE : Hid (ba = (bd || be)) := by show _ = _; rw [← hba, ← hbd, ← hbe]; exact halves_has (cmpQ_le.1 HLE.out.1) v
             have HMM : Hid (cmpQ a1 ((a1 + a2) * half2) ≤ 0 ∧ cmpQ ((a1 + a2) * half2) a2 ≤ 0) := (by obtain ⟨q1, q2⟩ := mid_le (cmpQ_le.1 HLE.out.1); exact ⟨cmpQ_le.2 q1, cmpQ_le.2 q2⟩)
             clear hcel hv13 sv hba hbb hbd hbe
             go_upto_region 16 with fail
             have hY16 : Below Y.heap.size Y Y := Below.refl _ _
             have hQ16 := hbq
             have K16 : Hid (∀ w' : World, Below Y.heap.size Y w' → w'.cell? ⟨rP, 0, none⟩ = some (.bool n1) ∧ w'.cell? ⟨rP, 1, none⟩ = some (.slice o1 l1 c1) ∧ w'.cell? ⟨rP, 2, none⟩ = some (.slice p1 m1 k1) ∧ w'.cell? ⟨rP, 3, none⟩ = some (.bool n2) ∧ w'.cell? ⟨rP, 4, none⟩ = some (.slice o2 l2 c2) ∧ w'.cell? ⟨rP, 5, none⟩ = some (.slice p2 m2 k2) ∧ w'.cell? ⟨g, q * 3, none⟩ = some (.bool n13) ∧ w'.cell? ⟨g, q * 3 + 1, none⟩ = some (.slice o13 l13 c13) ∧ w'.cell? ⟨g, q * 3 + 2, none⟩ = some (.slice p13 m13 k13)) := fun w' h => (by obtain ⟨e1, e2, e3⟩ := HCE.out w' (bnext hQ16 h); have zb := hP.later (bnext (bnext HL.out.2.2.2.2.2 hQ16) h) (by omega); exact ⟨zb.1 0 _ rfl, zb.1 1 _ rfl, zb.1 2 _ rfl, zb.1 3 _ rfl, zb.1 4 _ rfl, zb.1 5 _ rfl, e1, e2, e3⟩)
             go_cut [13, 14] (fun sA sB wx => sA = .bool ba ∧ sB = .int .i64 0 ∧ Below Y.heap.size Y wx)
             case first =>
              refine wp_region_noPanic ?_
              refine wp_region_held_drew (S := fun w' => (w'.cell? ⟨rP, 0, none⟩ = some (.bool n1) ∧ w'.cell? ⟨rP, 1, none⟩ = some (.slice o1 l1 c1) ∧ w'.cell? ⟨rP, 2, none⟩ = some (.slice p1 m1 k1) ∧ w'.cell? ⟨rP, 3, none⟩ = some (.bool n2) ∧ w'.cell? ⟨rP, 4, none⟩ = some (.slice o2 l2 c2) ∧ w'.cell? ⟨rP, 5, none⟩ = some (.slice p2 m2 k2) ∧ w'.cell? ⟨g, q * 3, none⟩ = some (.bool n13) ∧ w'.cell? ⟨g, q * 3 + 1, none⟩ = some (.slice o13 l13 c13) ∧ w'.cell? ⟨g, q * 3 + 2, none⟩ = some (.slice p13 m13 k13))) (by kernel_rfl) (by (try dsimp only); exact K16.out _ (Below.refl _ _).drew) (fun hHeld => ?_)
              refine wpAnyH_take (i := 0) (oi := Oper.mk (some 108) _ _ _ _ _) (v := ?_) rfl (by decide +kernel) (by decide +kernel) (by decide +kernel) (fun _ _ _ h => h) (Or.inl ⟨by rfl, ?_⟩) (by assumption) ?_
              rotate_left
              ·
               (intro w hSw; (try dsimp only at hSw); go_simp <;> (try with_reducible rfl))
              (try simp only [Act.put, List.setIfInBounds_toArray, List.set_cons_zero, List.set_cons_succ])
              refine wpAnyH_take (i := 1) (oi := Oper.mk (some 109) _ _ _ _ _) (v := ?_) rfl (by decide +kernel) (by decide +kernel) (by decide +kernel) (fun _ _ _ h => h) (Or.inl ⟨by rfl, ?_⟩) (by assumption) ?_
              rotate_left
              ·
               (intro w hSw; (try dsimp only at hSw); go_simp <;> (try with_reducible rfl))
              (try simp only [Act.put, List.setIfInBounds_toArray, List.set_cons_zero, List.set_cons_succ])
              refine wpAnyH_take (i := 2) (oi := Oper.mk (some 110) _ _ _ _ _) (v := ?_) rfl (by decide +kernel) (by decide +kernel) (by decide +kernel) (fun _ _ _ h => h) (Or.inl ⟨by rfl, ?_⟩) (by assumption) ?_
              rotate_left
              ·
               (intro w hSw; (try dsimp only at hSw); go_simp <;> (try with_reducible rfl))
              (try simp only [Act.put, List.setIfInBounds_toArray, List.set_cons_zero, List.set_cons_succ])
              refine wpAnyH_take (i := 3) (oi := Oper.mk (some 111) _ _ _ _ _) (v := ?_) rfl (by decide +kernel) (by decide +kernel) (by decide +kernel) (fun _ _ _ h => h) (Or.inl ⟨by rfl, ?_⟩) (by assumption) ?_
              rotate_left
              ·
               (intro w hSw; (try dsimp only at hSw); go_simp <;> (try with_reducible rfl))
              (try simp only [Act.put, List.setIfInBounds_toArray, List.set_cons_zero, List.set_cons_succ])
              refine wpAnyH_take (i := 4) (oi := Oper.mk (some 112) _ _ _ _ _) (v := ?_) rfl (by decide +kernel) (by decide +kernel) (by decide +kernel) (fun _ _ _ h => h) (Or.inl ⟨by rfl, ?_⟩) (by assumption) ?_
              rotate_left
              ·
               (intro w hSw; (try dsimp only at hSw); go_simp <;> (try with_reducible rfl))
              (try simp only [Act.put, List.setIfInBounds_toArray, List.set_cons_zero, List.set_cons_succ])
              refine wpAnyH_take (i := 5) (oi := Oper.mk (some 113) _ _ _ _ _) (v := ?_) rfl (by decide +kernel) (by decide +kernel) (by decide +kernel) (fun _ _ _ h => h) (Or.inl ⟨by rfl, ?_⟩) (by assumption) ?_
              rotate_left
              ·
               (intro w hSw; (try dsimp only at hSw); go_simp <;> (try with_reducible rfl))
              (try simp only [Act.put, List.setIfInBounds_toArray, List.set_cons_zero, List.set_cons_succ])
              refine wpAnyH_ready (rs := [6]) (by decide +kernel) (by simp) ?_
              refine AllReadyH.cons (o := Oper.mk (some 114) _ _ _ _ _) rfl (fun K hK => ?_) AllReadyH.nil
              go_simp
              (go_at_call 34; refine (shas_any n1 n2 n13 o1 p1 o2 p2 o13 p13 l1 c1 m1 k1 l2 c2 m2 k2 l13 c13 m13 k13 a1 a2 v _ (HR.out.1.1.later (bnext (bnext HL.out.2.2.2.2.2 hQ16) (Below.refl _ _).drew)) (HR.out.1.2.later (bnext (bnext HL.out.2.2.2.2.2 hQ16) (Below.refl _ _).drew)) (HV.out.1.later (bnext hY16 (Below.refl _ _).drew)) (HZ.out.1.1.mono (by decide)) (HZ.out.1.2.mono (by decide)) (HV.out.2.mono (by decide)) HLE.out.1 (tab_later HTW.out (bnext (bnext HL.out.2.2.2.2.2 hQ16) (Below.refl _ _).drew)) ba HB.out.1).mono ?_; rintro e f1 ⟨rfl, hb⟩; skip; have hbF1 : Below Y.heap.size Y f1 := bnext (Below.refl _ _).drew hb; clear hb)
              (try go_wp2_with fail)
              clear hHeld
              refine hK.out _ _ (by (try dsimp only); first | exact K16.out _ (Below.refl _ _).drew | exact K16.out _ (by assumption)) (fun hHeld => ?_)
              clear hK K
              (try simp only [Act.put, List.setIfInBounds_toArray, List.set_cons_zero, List.set_cons_succ])
              refine wpAnyH_take (i := 7) (oi := Oper.mk (some 107) _ _ _ _ _) (v := ?_) rfl (by decide +kernel) (by decide +kernel) (by decide +kernel) (fun _ _ _ h => h) (Or.inl ⟨by rfl, ?_⟩) (by assumption) ?_
              rotate_left
              ·
               (intro w hSw; (try dsimp only at hSw); go_simp <;> (try with_reducible rfl))
              (try simp only [Act.put, List.setIfInBounds_toArray, List.set_cons_zero, List.set_cons_succ])
              refine wpAnyH_take (i := 8) (oi := Oper.mk (some 115) _ _ _ _ _) (v := ?_) rfl (by decide +kernel) (by decide +kernel) (by decide +kernel) (fun _ _ _ h => h) (Or.inl ⟨by rfl, ?_⟩) (by assumption) ?_
              rotate_left
              ·
               (intro w hSw; (try dsimp only at hSw); go_simp <;> (try with_reducible rfl))
              (try simp only [Act.put, List.setIfInBounds_toArray, List.set_cons_zero, List.set_cons_succ])
              refine wpAnyH_take (i := 9) (oi := Oper.mk (some 116) _ _ _ _ _) (v := ?_) rfl (by decide +kernel) (by decide +kernel) (by decide +kernel) (fun _ _ _ h => h) (Or.inl ⟨by rfl, ?_⟩) (by assumption) ?_
              rotate_left
              ·
               (intro w hSw; (try dsimp only at hSw); go_simp <;> (try with_reducible rfl))
              (try simp only [Act.put, List.setIfInBounds_toArray, List.set_cons_zero, List.set_cons_succ])
              refine wpAnyH_take (i := 10) (oi := Oper.mk (some 13) _ _ _ _ _) (v := ?_) rfl (by decide +kernel) (by decide +kernel) (by decide +kernel) (fun _ _ _ h => h) (Or.inl ⟨by rfl, ?_⟩) (by assumption) ?_
              rotate_left
              ·
               (intro w hSw; (try dsimp only at hSw); go_simp <;> (try with_reducible rfl))
              (try simp only [Act.put, List.setIfInBounds_toArray, List.set_cons_zero, List.set_cons_succ])
              refine wpAnyH_take (i := 11) (oi := Oper.mk (some 14) _ _ _ _ _) (v := ?_) rfl (by decide +kernel) (by decide +kernel) (by decide +kernel) (fun _ _ _ h => h) (Or.inl ⟨by rfl, ?_⟩) (by assumption) ?_
              rotate_left
              ·
               (intro w hSw; (try dsimp only at hSw); go_simp <;> (try with_reducible rfl))
              (try simp only [Act.put, List.setIfInBounds_toArray, List.set_cons_zero, List.set_cons_succ])
              refine wpAnyH_done (by decide +kernel) ?_ _
              refine NoPanic.normal ?_
              go_wp2
              go_meet
              exact ⟨rfl, rfl, hbF1⟩
             case rest =>
              obtain ⟨rfl, rfl, hb9⟩ := hcut
              obtain ⟨Y17, hX⟩ : ∃ X, X = wc := ⟨_, rfl⟩
              rw [← hX] at hb9
              rw [← hX]
              have hQ17 := bnext hQ16 hb9
              have hY17 := bnext hY16 hb9
              clear hX hb9 K16
              go_upto_region 17 with fail
              have K17 : Hid (∀ w' : World, Below Y17.heap.size Y17 w' → w'.cell? ⟨rP, 6, none⟩ = some (.bool n3) ∧ w'.cell? ⟨rP, 7, none⟩ = some (.slice o3 l3 c3) ∧ w'.cell? ⟨rP, 8, none⟩ = some (.slice p3 m3 k3) ∧ w'.cell? ⟨rP, 9, none⟩ = some (.bool n4) ∧ w'.cell? ⟨rP, 10, none⟩ = some (.slice o4 l4 c4) ∧ w'.cell? ⟨rP, 11, none⟩ = some (.slice p4 m4 k4) ∧ w'.cell? ⟨g, q * 3, none⟩ = some (.bool n13) ∧ w'.cell? ⟨g, q * 3 + 1, none⟩ = some (.slice o13 l13 c13) ∧ w'.cell? ⟨g, q * 3 + 2, none⟩ = some (.slice p13 m13 k13)) := fun w' h => (by obtain ⟨e1, e2, e3⟩ := HCE.out w' (bnext hQ17 h); have zb := hP.later (bnext (bnext HL.out.2.2.2.2.2 hQ17) h) (by omega); exact ⟨zb.1 6 _ rfl, zb.1 7 _ rfl, zb.1 8 _ rfl, zb.1 9 _ rfl, zb.1 10 _ rfl, zb.1 11 _ rfl, e1, e2, e3⟩)
              go_cut [15, 16] (fun sA sB wx => sA = .bool bb ∧ sB = .int .i64 0 ∧ Below Y17.heap.size Y17 wx)
              case first =>
               refine wp_region_noPanic ?_
               refine wp_region_held_drew (S := fun w' => (w'.cell? ⟨rP, 6, none⟩ = some (.bool n3) ∧ w'.cell? ⟨rP, 7, none⟩ = some (.slice o3 l3 c3) ∧ w'.cell? ⟨rP, 8, none⟩ = some (.slice p3 m3 k3) ∧ w'.cell? ⟨rP, 9, none⟩ = some (.bool n4) ∧ w'.cell? ⟨rP, 10, none⟩ = some (.slice o4 l4 c4) ∧ w'.cell? ⟨rP, 11, none⟩ = some (.slice p4 m4 k4) ∧ w'.cell? ⟨g, q * 3, none⟩ = some (.bool n13) ∧ w'.cell? ⟨g, q * 3 + 1, none⟩ = some (.slice o13 l13 c13) ∧ w'.cell? ⟨g, q * 3 + 2, none⟩ = some (.slice p13 m13 k13))) (by kernel_rfl) (by (try dsimp only); exact K17.out _ (Below.refl _ _).drew) (fun hHeld => ?_)
               refine wpAnyH_take (i := 0) (oi := Oper.mk (some 118) _ _ _ _ _) (v := ?_) rfl (by decide +kernel) (by decide +kernel) (by decide +kernel) (fun _ _ _ h => h) (Or.inl ⟨by rfl, ?_⟩) (by assumption) ?_
               rotate_left
               ·
                (intro w hSw; (try dsimp only at hSw); go_simp <;> (try with_reducible rfl))
               (try simp only [Act.put, List.setIfInBounds_toArray, List.set_cons_zero, List.set_cons_succ])
               refine wpAnyH_take (i := 1) (oi := Oper.mk (some 119) _ _ _ _ _) (v := ?_) rfl (by decide +kernel) (by decide +kernel) (by decide +kernel) (fun _ _ _ h => h) (Or.inl ⟨by rfl, ?_⟩) (by assumption) ?_
               rotate_left
               ·
                (intro w hSw; (try dsimp only at hSw); go_simp <;> (try with_reducible rfl))
               (try simp only [Act.put, List.setIfInBounds_toArray, List.set_cons_zero, List.set_cons_succ])
               refine wpAnyH_take (i := 2) (oi := Oper.mk (some 120) _ _ _ _ _) (v := ?_) rfl (by decide +kernel) (by decide +kernel) (by decide +kernel) (fun _ _ _ h => h) (Or.inl ⟨by rfl, ?_⟩) (by assumption) ?_
               rotate_left
               ·
                (intro w hSw; (try dsimp only at hSw); go_simp <;> (try with_reducible rfl))
               (try simp only [Act.put, List.setIfInBounds_toArray, List.set_cons_zero, List.set_cons_succ])
               refine wpAnyH_take (i := 3) (oi := Oper.mk (some 121) _ _ _ _ _) (v := ?_) rfl (by decide +kernel) (by decide +kernel) (by decide +kernel) (fun _ _ _ h => h) (Or.inl ⟨by rfl, ?_⟩) (by assumption) ?_
               rotate_left
               ·
                (intro w hSw; (try dsimp only at hSw); go_simp <;> (try with_reducible rfl))
               (try simp only [Act.put, List.setIfInBounds_toArray, List.set_cons_zero, List.set_cons_succ])
               refine wpAnyH_take (i := 4) (oi := Oper.mk (some 122) _ _ _ _ _) (v := ?_) rfl (by decide +kernel) (by decide +kernel) (by decide +kernel) (fun _ _ _ h => h) (Or.inl ⟨by rfl, ?_⟩) (by assumption) ?_
               rotate_left
               ·
                (intro w hSw; (try dsimp only at hSw); go_simp <;> (try with_reducible rfl))
               (try simp only [Act.put, List.setIfInBounds_toArray, List.set_cons_zero, List.set_cons_succ])
               refine wpAnyH_take (i := 5) (oi := Oper.mk (some 123) _ _ _ _ _) (v := ?_) rfl (by decide +kernel) (by decide +kernel) (by decide +kernel) (fun _ _ _ h => h) (Or.inl ⟨by rfl, ?_⟩) (by assumption) ?_
               rotate_left
               ·
                (intro w hSw; (try dsimp only at hSw); go_simp <;> (try with_reducible rfl))
               (try simp only [Act.put, List.setIfInBounds_toArray, List.set_cons_zero, List.set_cons_succ])
               refine wpAnyH_ready (rs := [6]) (by decide +kernel) (by simp) ?_
               refine AllReadyH.cons (o := Oper.mk (some 124) _ _ _ _ _) rfl (fun K hK => ?_) AllReadyH.nil
               go_simp
               (go_at_call 34; refine (shas_any n3 n4 n13 o3 p3 o4 p4 o13 p13 l3 c3 m3 k3 l4 c4 m4 k4 l13 c13 m13 k13 a3 a4 v _ (HR.out.2.1.1.later (bnext (bnext HL.out.2.2.2.2.2 hQ17) (Below.refl _ _).drew)) (HR.out.2.1.2.later (bnext (bnext HL.out.2.2.2.2.2 hQ17) (Below.refl _ _).drew)) (HV.out.1.later (bnext hY17 (Below.refl _ _).drew)) (HZ.out.2.1.1.mono (by decide)) (HZ.out.2.1.2.mono (by decide)) (HV.out.2.mono (by decide)) HLE.out.2 (tab_later HTW.out (bnext (bnext HL.out.2.2.2.2.2 hQ17) (Below.refl _ _).drew)) bb HB.out.2.1).mono ?_; rintro e f1 ⟨rfl, hb⟩; skip; have hbF1 : Below Y17.heap.size Y17 f1 := bnext (Below.refl _ _).drew hb; clear hb)
               (try go_wp2_with fail)
               clear hHeld
               refine hK.out _ _ (by (try dsimp only); first | exact K17.out _ (Below.refl _ _).drew | exact K17.out _ (by assumption)) (fun hHeld => ?_)
               clear hK K
               (try simp only [Act.put, List.setIfInBounds_toArray, List.set_cons_zero, List.set_cons_succ])
               refine wpAnyH_take (i := 7) (oi := Oper.mk (some 117) _ _ _ _ _) (v := ?_) rfl (by decide +kernel) (by decide +kernel) (by decide +kernel) (fun _ _ _ h => h) (Or.inl ⟨by rfl, ?_⟩) (by assumption) ?_
               rotate_left
               ·
                (intro w hSw; (try dsimp only at hSw); go_simp <;> (try with_reducible rfl))
               (try simp only [Act.put, List.setIfInBounds_toArray, List.set_cons_zero, List.set_cons_succ])
               refine wpAnyH_take (i := 8) (oi := Oper.mk (some 125) _ _ _ _ _) (v := ?_) rfl (by decide +kernel) (by decide +kernel) (by decide +kernel) (fun _ _ _ h => h) (Or.inl ⟨by rfl, ?_⟩) (by assumption) ?_
               rotate_left
               ·
                (intro w hSw; (try dsimp only at hSw); go_simp <;> (try with_reducible rfl))
               (try simp only [Act.put, List.setIfInBounds_toArray, List.set_cons_zero, List.set_cons_succ])
               refine wpAnyH_take (i := 9) (oi := Oper.mk (some 126) _ _ _ _ _) (v := ?_) rfl (by decide +kernel) (by decide +kernel) (by decide +kernel) (fun _ _ _ h => h) (Or.inl ⟨by rfl, ?_⟩) (by assumption) ?_
               rotate_left
               ·
                (intro w hSw; (try dsimp only at hSw); go_simp <;> (try with_reducible rfl))
               (try simp only [Act.put, List.setIfInBounds_toArray, List.set_cons_zero, List.set_cons_succ])
               refine wpAnyH_take (i := 10) (oi := Oper.mk (some 15) _ _ _ _ _) (v := ?_) rfl (by decide +kernel) (by decide +kernel) (by decide +kernel) (fun _ _ _ h => h) (Or.inl ⟨by rfl, ?_⟩) (by assumption) ?_
               rotate_left
               ·
                (intro w hSw; (try dsimp only at hSw); go_simp <;> (try with_reducible rfl))
               (try simp only [Act.put, List.setIfInBounds_toArray, List.set_cons_zero, List.set_cons_succ])
               refine wpAnyH_take (i := 11) (oi := Oper.mk (some 16) _ _ _ _ _) (v := ?_) rfl (by decide +kernel) (by decide +kernel) (by decide +kernel) (fun _ _ _ h => h) (Or.inl ⟨by rfl, ?_⟩) (by assumption) ?_
               rotate_left
               ·
                (intro w hSw; (try dsimp only at hSw); go_simp <;> (try with_reducible rfl))
               (try simp only [Act.put, List.setIfInBounds_toArray, List.set_cons_zero, List.set_cons_succ])
               refine wpAnyH_done (by decide +kernel) ?_ _
               refine NoPanic.normal ?_
               go_wp2
               go_meet
               exact ⟨rfl, rfl, hbF1⟩
              case rest =>
               obtain ⟨rfl, rfl, hb9⟩ := hcut
               obtain ⟨Y18, hX⟩ : ∃ X, X = wc := ⟨_, rfl⟩
               rw [← hX] at hb9
               rw [← hX]
               have hQ21 := bnext hQ17 hb9
               have hY21 := bnext hY17 hb9
               clear hX hb9 K17
               obtain ⟨bc, HBC⟩ : ∃ bc : Bool, Hid (bc = (ba && bb) ∧ (so = true → hasQ (maxQ a1 a3) (minQ a2 a4) v = bc) ∧ (so = false → bc = false)) := by
                refine ⟨ba && bb, rfl, fun h => ?_, fun h => ?_⟩
                ·
                 rw [meet_has, HB.out.1, HB.out.2.1]
                ·
                 rw [← HB.out.1, ← HB.out.2.1]; exact meet_no (fun h2 => by have := HSO.out; rw [h, decide_eq_true h2] at this; cases this) v
               cases so
               ·
                obtain rfl : bc = false := HBC.out.2.2 rfl
                go_upto_region 22 with fail
                obtain ⟨Y22, hX⟩ : ∃ X, X = Y18 := ⟨_, rfl⟩
                rw [← hX] at hQ21 hY21
                rw [← hX]
                have hQ22 := hQ21
                have hY22 := hY21
                clear hX hQ21 hY21
                have K22 : Hid (∀ w' : World, Below Y22.heap.size Y22 w' → w'.cell? ⟨r8, 0, none⟩ = some (.bool n8) ∧ w'.cell? ⟨r8, 1, none⟩ = some (.slice o8 l8 c8) ∧ w'.cell? ⟨r8, 2, none⟩ = some (.slice p8 m8 k8) ∧ w'.cell? ⟨r8, 3, none⟩ = some (.bool n9) ∧ w'.cell? ⟨r8, 4, none⟩ = some (.slice o9 l9 c9) ∧ w'.cell? ⟨r8, 5, none⟩ = some (.slice p9 m9 k9) ∧ w'.cell? ⟨g, q * 3, none⟩ = some (.bool n13) ∧ w'.cell? ⟨g, q * 3 + 1, none⟩ = some (.slice o13 l13 c13) ∧ w'.cell? ⟨g, q * 3 + 2, none⟩ = some (.slice p13 m13 k13)) := fun w' h => (by obtain ⟨e1, e2, e3⟩ := HCE.out w' (bnext hQ22 h); have zb := HL.out.1.1.later (bnext hQ22 h) HL.out.1.1.lt; exact ⟨zb.1 0 _ rfl, zb.1 1 _ rfl, zb.1 2 _ rfl, zb.1 3 _ rfl, zb.1 4 _ rfl, zb.1 5 _ rfl, e1, e2, e3⟩)
                go_cut [19, 20] (fun sA sB wx => sA = .bool bd ∧ sB = .int .i64 0 ∧ Below Y22.heap.size Y22 wx)
                case first =>
                 refine wp_region_noPanic ?_
                 refine wp_region_held_drew (S := fun w' => (w'.cell? ⟨r8, 0, none⟩ = some (.bool n8) ∧ w'.cell? ⟨r8, 1, none⟩ = some (.slice o8 l8 c8) ∧ w'.cell? ⟨r8, 2, none⟩ = some (.slice p8 m8 k8) ∧ w'.cell? ⟨r8, 3, none⟩ = some (.bool n9) ∧ w'.cell? ⟨r8, 4, none⟩ = some (.slice o9 l9 c9) ∧ w'.cell? ⟨r8, 5, none⟩ = some (.slice p9 m9 k9) ∧ w'.cell? ⟨g, q * 3, none⟩ = some (.bool n13) ∧ w'.cell? ⟨g, q * 3 + 1, none⟩ = some (.slice o13 l13 c13) ∧ w'.cell? ⟨g, q * 3 + 2, none⟩ = some (.slice p13 m13 k13))) (by kernel_rfl) (by (try dsimp only); exact K22.out _ (Below.refl _ _).drew) (fun hHeld => ?_)
                 refine wpAnyH_take (i := 0) (oi := Oper.mk (some 138) _ _ _ _ _) (v := ?_) rfl (by decide +kernel) (by decide +kernel) (by decide +kernel) (fun _ _ _ h => h) (Or.inl ⟨by rfl, ?_⟩) (by assumption) ?_
                 rotate_left
                 ·
                  (intro w hSw; (try dsimp only at hSw); go_simp <;> (try with_reducible rfl))
                 (try simp only [Act.put, List.setIfInBounds_toArray, List.set_cons_zero, List.set_cons_succ])
                 refine wpAnyH_take (i := 1) (oi := Oper.mk (some 139) _ _ _ _ _) (v := ?_) rfl (by decide +kernel) (by decide +kernel) (by decide +kernel) (fun _ _ _ h => h) (Or.inl ⟨by rfl, ?_⟩) (by assumption) ?_
                 rotate_left
                 ·
                  (intro w hSw; (try dsimp only at hSw); go_simp <;> (try with_reducible rfl))
                 (try simp only [Act.put, List.setIfInBounds_toArray, List.set_cons_zero, List.set_cons_succ])
                 refine wpAnyH_take (i := 2) (oi := Oper.mk (some 140) _ _ _ _ _) (v := ?_) rfl (by decide +kernel) (by decide +kernel) (by decide +kernel) (fun _ _ _ h => h) (Or.inl ⟨by rfl, ?_⟩) (by assumption) ?_
                 rotate_left
                 ·
                  (intro w hSw; (try dsimp only at hSw); go_simp <;> (try with_reducible rfl))
                 (try simp only [Act.put, List.setIfInBounds_toArray, List.set_cons_zero, List.set_cons_succ])
                 refine wpAnyH_take (i := 3) (oi := Oper.mk (some 141) _ _ _ _ _) (v := ?_) rfl (by decide +kernel) (by decide +kernel) (by decide +kernel) (fun _ _ _ h => h) (Or.inl ⟨by rfl, ?_⟩) (by assumption) ?_
                 rotate_left
                 ·
                  (intro w hSw; (try dsimp only at hSw); go_simp <;> (try with_reducible rfl))
                 (try simp only [Act.put, List.setIfInBounds_toArray, List.set_cons_zero, List.set_cons_succ])
                 refine wpAnyH_take (i := 4) (oi := Oper.mk (some 142) _ _ _ _ _) (v := ?_) rfl (by decide +kernel) (by decide +kernel) (by decide +kernel) (fun _ _ _ h => h) (Or.inl ⟨by rfl, ?_⟩) (by assumption) ?_
                 rotate_left
                 ·
                  (intro w hSw; (try dsimp only at hSw); go_simp <;> (try with_reducible rfl))
                 (try simp only [Act.put, List.setIfInBounds_toArray, List.set_cons_zero, List.set_cons_succ])
                 refine wpAnyH_ready (rs := [5]) (by decide +kernel) (by simp) ?_
                 refine AllReadyH.cons (o := Oper.mk (some 143) _ _ _ _ _) rfl (fun K hK => ?_) AllReadyH.nil
                 go_simp
                 (go_at_call 34; refine (shas_any n8 n9 n13 o8 p8 o9 p9 o13 p13 l8 c8 m8 k8 l9 c9 m9 k9 l13 c13 m13 k13 a1 ((a1 + a2) * half2) v _ (HL.out.2.1.1.later (bnext hQ22 (Below.refl _ _).drew)) (HL.out.2.1.2.later (bnext hQ22 (Below.refl _ _).drew)) (HV.out.1.later (bnext hY22 (Below.refl _ _).drew)) (HZ.out.1.1.mono (by decide)) (HMZ.out.1.mono (by decide)) (HV.out.2.mono (by decide)) HMM.out.1 (tab_later HTW.out (bnext (bnext HL.out.2.2.2.2.2 hQ22) (Below.refl _ _).drew)) bd HB.out.2.2.1).mono ?_; rintro e f1 ⟨rfl, hb⟩; skip; have hbF1 : Below Y22.heap.size Y22 f1 := bnext (Below.refl _ _).drew hb; clear hb)
                 (try go_wp2_with fail)
                 clear hHeld
                 refine hK.out _ _ (by (try dsimp only); first | exact K22.out _ (Below.refl _ _).drew | exact K22.out _ (by assumption)) (fun hHeld => ?_)
                 clear hK K
                 (try simp only [Act.put, List.setIfInBounds_toArray, List.set_cons_zero, List.set_cons_succ])
                 refine wpAnyH_take (i := 6) (oi := Oper.mk (some 137) _ _ _ _ _) (v := ?_) rfl (by decide +kernel) (by decide +kernel) (by decide +kernel) (fun _ _ _ h => h) (Or.inl ⟨by rfl, ?_⟩) (by assumption) ?_
                 rotate_left
                 ·
                  (intro w hSw; (try dsimp only at hSw); go_simp <;> (try with_reducible rfl))
                 (try simp only [Act.put, List.setIfInBounds_toArray, List.set_cons_zero, List.set_cons_succ])
                 refine wpAnyH_take (i := 7) (oi := Oper.mk (some 144) _ _ _ _ _) (v := ?_) rfl (by decide +kernel) (by decide +kernel) (by decide +kernel) (fun _ _ _ h => h) (Or.inl ⟨by rfl, ?_⟩) (by assumption) ?_
                 rotate_left
                 ·
                  (intro w hSw; (try dsimp only at hSw); go_simp <;> (try with_reducible rfl))
                 (try simp only [Act.put, List.setIfInBounds_toArray, List.set_cons_zero, List.set_cons_succ])
                 refine wpAnyH_take (i := 8) (oi := Oper.mk (some 145) _ _ _ _ _) (v := ?_) rfl (by decide +kernel) (by decide +kernel) (by decide +kernel) (fun _ _ _ h => h) (Or.inl ⟨by rfl, ?_⟩) (by assumption) ?_
                 rotate_left
                 ·
                  (intro w hSw; (try dsimp only at hSw); go_simp <;> (try with_reducible rfl))
                 (try simp only [Act.put, List.setIfInBounds_toArray, List.set_cons_zero, List.set_cons_succ])
                 refine wpAnyH_take (i := 9) (oi := Oper.mk (some 19) _ _ _ _ _) (v := ?_) rfl (by decide +kernel) (by decide +kernel) (by decide +kernel) (fun _ _ _ h => h) (Or.inl ⟨by rfl, ?_⟩) (by assumption) ?_
                 rotate_left
                 ·
                  (intro w hSw; (try dsimp only at hSw); go_simp <;> (try with_reducible rfl))
                 (try simp only [Act.put, List.setIfInBounds_toArray, List.set_cons_zero, List.set_cons_succ])
                 refine wpAnyH_take (i := 10) (oi := Oper.mk (some 20) _ _ _ _ _) (v := ?_) rfl (by decide +kernel) (by decide +kernel) (by decide +kernel) (fun _ _ _ h => h) (Or.inl ⟨by rfl, ?_⟩) (by assumption) ?_
                 rotate_left
                 ·
                  (intro w hSw; (try dsimp only at hSw); go_simp <;> (try with_reducible rfl))
                 (try simp only [Act.put, List.setIfInBounds_toArray, List.set_cons_zero, List.set_cons_succ])
                 refine wpAnyH_done (by decide +kernel) ?_ _
                 refine NoPanic.normal ?_
                 go_wp2
                 go_meet
                 exact ⟨rfl, rfl, hbF1⟩
                case rest =>
                 obtain ⟨rfl, rfl, hb9⟩ := hcut
                 obtain ⟨Y23, hX⟩ : ∃ X, X = wc := ⟨_, rfl⟩
                 rw [← hX] at hb9
                 rw [← hX]
                 have hQ23 := bnext hQ22 hb9
                 have hY23 := bnext hY22 hb9
                 clear hX hb9 K22
                 go_upto_region 23 with fail
                 have K23 : Hid (∀ w' : World, Below Y23.heap.size Y23 w' → w'.cell? ⟨r9, 0, none⟩ = some (.bool n10) ∧ w'.cell? ⟨r9, 1, none⟩ = some (.slice o10 l10 c10) ∧ w'.cell? ⟨r9, 2, none⟩ = some (.slice p10 m10 k10) ∧ w'.cell? ⟨r9, 3, none⟩ = some (.bool n11) ∧ w'.cell? ⟨r9, 4, none⟩ = some (.slice o11 l11 c11) ∧ w'.cell? ⟨r9, 5, none⟩ = some (.slice p11 m11 k11) ∧ w'.cell? ⟨g, q * 3, none⟩ = some (.bool n13) ∧ w'.cell? ⟨g, q * 3 + 1, none⟩ = some (.slice o13 l13 c13) ∧ w'.cell? ⟨g, q * 3 + 2, none⟩ = some (.slice p13 m13 k13)) := fun w' h => (by obtain ⟨e1, e2, e3⟩ := HCE.out w' (bnext hQ23 h); have zb := HL.out.1.2.1.later (bnext hQ23 h) HL.out.1.2.1.lt; exact ⟨zb.1 0 _ rfl, zb.1 1 _ rfl, zb.1 2 _ rfl, zb.1 3 _ rfl, zb.1 4 _ rfl, zb.1 5 _ rfl, e1, e2, e3⟩)
                 go_cut [21, 22] (fun sA sB wx => sA = .bool be ∧ sB = .int .i64 0 ∧ Below Y23.heap.size Y23 wx)
                 case first =>
                  refine wp_region_noPanic ?_
                  refine wp_region_held_drew (S := fun w' => (w'.cell? ⟨r9, 0, none⟩ = some (.bool n10) ∧ w'.cell? ⟨r9, 1, none⟩ = some (.slice o10 l10 c10) ∧ w'.cell? ⟨r9, 2, none⟩ = some (.slice p10 m10 k10) ∧ w'.cell? ⟨r9, 3, none⟩ = some (.bool n11) ∧ w'.cell? ⟨r9, 4, none⟩ = some (.slice o11 l11 c11) ∧ w'.cell? ⟨r9, 5, none⟩ = some (.slice p11 m11 k11) ∧ w'.cell? ⟨g, q * 3, none⟩ = some (.bool n13) ∧ w'.cell? ⟨g, q * 3 + 1, none⟩ = some (.slice o13 l13 c13) ∧ w'.cell? ⟨g, q * 3 + 2, none⟩ = some (.slice p13 m13 k13))) (by kernel_rfl) (by (try dsimp only); exact K23.out _ (Below.refl _ _).drew) (fun hHeld => ?_)
                  refine wpAnyH_take (i := 0) (oi := Oper.mk (some 147) _ _ _ _ _) (v := ?_) rfl (by decide +kernel) (by decide +kernel) (by decide +kernel) (fun _ _ _ h => h) (Or.inl ⟨by rfl, ?_⟩) (by assumption) ?_
                  rotate_left
                  ·
                   (intro w hSw; (try dsimp only at hSw); go_simp <;> (try with_reducible rfl))
                  (try simp only [Act.put, List.setIfInBounds_toArray, List.set_cons_zero, List.set_cons_succ])
                  refine wpAnyH_take (i := 1) (oi := Oper.mk (some 148) _ _ _ _ _) (v := ?_) rfl (by decide +kernel) (by decide +kernel) (by decide +kernel) (fun _ _ _ h => h) (Or.inl ⟨by rfl, ?_⟩) (by assumption) ?_
                  rotate_left
                  ·
                   (intro w hSw; (try dsimp only at hSw); go_simp <;> (try with_reducible rfl))
                  (try simp only [Act.put, List.setIfInBounds_toArray, List.set_cons_zero, List.set_cons_succ])
                  refine wpAnyH_take (i := 2) (oi := Oper.mk (some 149) _ _ _ _ _) (v := ?_) rfl (by decide +kernel) (by decide +kernel) (by decide +kernel) (fun _ _ _ h => h) (Or.inl ⟨by rfl, ?_⟩) (by assumption) ?_
                  rotate_left
                  ·
                   (intro w hSw; (try dsimp only at hSw); go_simp <;> (try with_reducible rfl))
                  (try simp only [Act.put, List.setIfInBounds_toArray, List.set_cons_zero, List.set_cons_succ])
                  refine wpAnyH_take (i := 3) (oi := Oper.mk (some 150) _ _ _ _ _) (v := ?_) rfl (by decide +kernel) (by decide +kernel) (by decide +kernel) (fun _ _ _ h => h) (Or.inl ⟨by rfl, ?_⟩) (by assumption) ?_
                  rotate_left
                  ·
                   (intro w hSw; (try dsimp only at hSw); go_simp <;> (try with_reducible rfl))
                  (try simp only [Act.put, List.setIfInBounds_toArray, List.set_cons_zero, List.set_cons_succ])
                  refine wpAnyH_take (i := 4) (oi := Oper.mk (some 151) _ _ _ _ _) (v := ?_) rfl (by decide +kernel) (by decide +kernel) (by decide +kernel) (fun _ _ _ h => h) (Or.inl ⟨by rfl, ?_⟩) (by assumption) ?_
                  rotate_left
                  ·
                   (intro w hSw; (try dsimp only at hSw); go_simp <;> (try with_reducible rfl))
                  (try simp only [Act.put, List.setIfInBounds_toArray, List.set_cons_zero, List.set_cons_succ])
                  refine wpAnyH_ready (rs := [5]) (by decide +kernel) (by simp) ?_
                  refine AllReadyH.cons (o := Oper.mk (some 152) _ _ _ _ _) rfl (fun K hK => ?_) AllReadyH.nil
                  go_simp
                  (go_at_call 34; refine (shas_any n10 n11 n13 o10 p10 o11 p11 o13 p13 l10 c10 m10 k10 l11 c11 m11 k11 l13 c13 m13 k13 ((a1 + a2) * half2) a2 v _ (HL.out.2.2.1.1.later (bnext hQ23 (Below.refl _ _).drew)) (HL.out.2.2.1.2.later (bnext hQ23 (Below.refl _ _).drew)) (HV.out.1.later (bnext hY23 (Below.refl _ _).drew)) (HMZ.out.1.mono (by decide)) (HZ.out.1.2.mono (by decide)) (HV.out.2.mono (by decide)) HMM.out.2 (tab_later HTW.out (bnext (bnext HL.out.2.2.2.2.2 hQ23) (Below.refl _ _).drew)) be HB.out.2.2.2).mono ?_; rintro e f1 ⟨rfl, hb⟩; skip; have hbF1 : Below Y23.heap.size Y23 f1 := bnext (Below.refl _ _).drew hb; clear hb)
                  (try go_wp2_with fail)
                  clear hHeld
                  refine hK.out _ _ (by (try dsimp only); first | exact K23.out _ (Below.refl _ _).drew | exact K23.out _ (by assumption)) (fun hHeld => ?_)
                  clear hK K
                  (try simp only [Act.put, List.setIfInBounds_toArray, List.set_cons_zero, List.set_cons_succ])
                  refine wpAnyH_take (i := 6) (oi := Oper.mk (some 146) _ _ _ _ _) (v := ?_) rfl (by decide +kernel) (by decide +kernel) (by decide +kernel) (fun _ _ _ h => h) (Or.inl ⟨by rfl, ?_⟩) (by assumption) ?_
                  rotate_left
                  ·
                   (intro w hSw; (try dsimp only at hSw); go_simp <;> (try with_reducible rfl))
                  (try simp only [Act.put, List.setIfInBounds_toArray, List.set_cons_zero, List.set_cons_succ])
                  refine wpAnyH_take (i := 7) (oi := Oper.mk (some 153) _ _ _ _ _) (v := ?_) rfl (by decide +kernel) (by decide +kernel) (by decide +kernel) (fun _ _ _ h => h) (Or.inl ⟨by rfl, ?_⟩) (by assumption) ?_
                  rotate_left
                  ·
                   (intro w hSw; (try dsimp only at hSw); go_simp <;> (try with_reducible rfl))
                  (try simp only [Act.put, List.setIfInBounds_toArray, List.set_cons_zero, List.set_cons_succ])
                  refine wpAnyH_take (i := 8) (oi := Oper.mk (some 154) _ _ _ _ _) (v := ?_) rfl (by decide +kernel) (by decide +kernel) (by decide +kernel) (fun _ _ _ h => h) (Or.inl ⟨by rfl, ?_⟩) (by assumption) ?_
                  rotate_left
                  ·
                   (intro w hSw; (try dsimp only at hSw); go_simp <;> (try with_reducible rfl))
                  (try simp only [Act.put, List.setIfInBounds_toArray, List.set_cons_zero, List.set_cons_succ])
                  refine wpAnyH_take (i := 9) (oi := Oper.mk (some 21) _ _ _ _ _) (v := ?_) rfl (by decide +kernel) (by decide +kernel) (by decide +kernel) (fun _ _ _ h => h) (Or.inl ⟨by rfl, ?_⟩) (by assumption) ?_
                  rotate_left
                  ·
                   (intro w hSw; (try dsimp only at hSw); go_simp <;> (try with_reducible rfl))
                  (try simp only [Act.put, List.setIfInBounds_toArray, List.set_cons_zero, List.set_cons_succ])
                  refine wpAnyH_take (i := 10) (oi := Oper.mk (some 22) _ _ _ _ _) (v := ?_) rfl (by decide +kernel) (by decide +kernel) (by decide +kernel) (fun _ _ _ h => h) (Or.inl ⟨by rfl, ?_⟩) (by assumption) ?_
                  rotate_left
                  ·
                   (intro w hSw; (try dsimp only at hSw); go_simp <;> (try with_reducible rfl))
                  (try simp only [Act.put, List.setIfInBounds_toArray, List.set_cons_zero, List.set_cons_succ])
                  refine wpAnyH_done (by decide +kernel) ?_ _
                  refine NoPanic.normal ?_
                  go_wp2
                  go_meet
                  exact ⟨rfl, rfl, hbF1⟩
                 case rest =>
                  obtain ⟨rfl, rfl, hb9⟩ := hcut
                  obtain ⟨Y24, hX⟩ : ∃ X, X = wc := ⟨_, rfl⟩
                  rw [← hX] at hb9
                  rw [← hX]
                  have hQ24 := bnext hQ23 hb9
                  have hY24 := bnext hY23 hb9
                  clear hX hb9 K23
                  have hcc := HBC.out.1
                  have hee := HEE.out
                  clear HBC HEE HB HV HCE HMM
                  cases ba <;> cases bb <;> cases bd <;> cases be <;> first | (exfalso; revert hcc; decide) | (exfalso; revert hee; decide) | skip
                  all_goals (
                   clear hcc hee
                   go_wp2_with (go_at_call 15; refine (num3_any 0 _).mono ?_; rintro e xn ⟨rfl, hxn⟩; replace hxn := hxn.symm; subst hxn)
                   go_roundw)
                  all_goals (first
                   | exact ⟨q + 1, by omega, by go_num, hQ24⟩
                   | (simp [intOf]; omega))
               ·
                have HMN := HL.out.2.2.2.1 rfl
                have HLM : Hid (cmpQ (maxQ a1 a3) (minQ a2 a4) ≤ 0) := (by show _ ≤ _; exact of_decide_eq_true HSO.out)
                have HBB := HBC.out.2.1 rfl
                go_upto_region 21 with fail
                have K21 : Hid (∀ w' : World, Below Y18.heap.size Y18 w' → w'.cell? ⟨r5, 0, none⟩ = some (.bool n6) ∧ w'.cell? ⟨r5, 1, none⟩ = some (.slice o6 l6 c6) ∧ w'.cell? ⟨r5, 2, none⟩ = some (.slice p6 m6 k6) ∧ w'.cell? ⟨r5, 3, none⟩ = some (.bool n7) ∧ w'.cell? ⟨r5, 4, none⟩ = some (.slice o7 l7 c7) ∧ w'.cell? ⟨r5, 5, none⟩ = some (.slice p7 m7 k7) ∧ w'.cell? ⟨g, q * 3, none⟩ = some (.bool n13) ∧ w'.cell? ⟨g, q * 3 + 1, none⟩ = some (.slice o13 l13 c13) ∧ w'.cell? ⟨g, q * 3 + 2, none⟩ = some (.slice p13 m13 k13)) := fun w' h => (by obtain ⟨e1, e2, e3⟩ := HCE.out w' (bnext hQ21 h); have zb := HL.out.1.2.2.1.later (bnext hQ21 h) HL.out.1.2.2.1.lt; exact ⟨zb.1 0 _ rfl, zb.1 1 _ rfl, zb.1 2 _ rfl, zb.1 3 _ rfl, zb.1 4 _ rfl, zb.1 5 _ rfl, e1, e2, e3⟩)
                refine wp_region_noPanic ?_
                refine wp_region_held_drew (S := fun w' => (w'.cell? ⟨r5, 0, none⟩ = some (.bool n6) ∧ w'.cell? ⟨r5, 1, none⟩ = some (.slice o6 l6 c6) ∧ w'.cell? ⟨r5, 2, none⟩ = some (.slice p6 m6 k6) ∧ w'.cell? ⟨r5, 3, none⟩ = some (.bool n7) ∧ w'.cell? ⟨r5, 4, none⟩ = some (.slice o7 l7 c7) ∧ w'.cell? ⟨r5, 5, none⟩ = some (.slice p7 m7 k7) ∧ w'.cell? ⟨g, q * 3, none⟩ = some (.bool n13) ∧ w'.cell? ⟨g, q * 3 + 1, none⟩ = some (.slice o13 l13 c13) ∧ w'.cell? ⟨g, q * 3 + 2, none⟩ = some (.slice p13 m13 k13))) (by kernel_rfl) (by (try dsimp only); exact K21.out _ (Below.refl _ _).drew) (fun hHeld => ?_)
                refine wpAnyH_take (i := 0) (oi := Oper.mk (some 129) _ _ _ _ _) (v := ?_) rfl (by decide +kernel) (by decide +kernel) (by decide +kernel) (fun _ _ _ h => h) (Or.inl ⟨by rfl, ?_⟩) (by assumption) ?_
                rotate_left
                ·
                 (intro w hSw; (try dsimp only at hSw); go_simp <;> (try with_reducible rfl))
                (try simp only [Act.put, List.setIfInBounds_toArray, List.set_cons_zero, List.set_cons_succ])
                refine wpAnyH_take (i := 1) (oi := Oper.mk (some 130) _ _ _ _ _) (v := ?_) rfl (by decide +kernel) (by decide +kernel) (by decide +kernel) (fun _ _ _ h => h) (Or.inl ⟨by rfl, ?_⟩) (by assumption) ?_
                rotate_left
                ·
                 (intro w hSw; (try dsimp only at hSw); go_simp <;> (try with_reducible rfl))
                (try simp only [Act.put, List.setIfInBounds_toArray, List.set_cons_zero, List.set_cons_succ])
                refine wpAnyH_take (i := 2) (oi := Oper.mk (some 131) _ _ _ _ _) (v := ?_) rfl (by decide +kernel) (by decide +kernel) (by decide +kernel) (fun _ _ _ h => h) (Or.inl ⟨by rfl, ?_⟩) (by assumption) ?_
                rotate_left
                ·
                 (intro w hSw; (try dsimp only at hSw); go_simp <;> (try with_reducible rfl))
                (try simp only [Act.put, List.setIfInBounds_toArray, List.set_cons_zero, List.set_cons_succ])
                refine wpAnyH_take (i := 3) (oi := Oper.mk (some 132) _ _ _ _ _) (v := ?_) rfl (by decide +kernel) (by decide +kernel) (by decide +kernel) (fun _ _ _ h => h) (Or.inl ⟨by rfl, ?_⟩) (by assumption) ?_
                rotate_left
                ·
                 (intro w hSw; (try dsimp only at hSw); go_simp <;> (try with_reducible rfl))
                (try simp only [Act.put, List.setIfInBounds_toArray, List.set_cons_zero, List.set_cons_succ])
                refine wpAnyH_take (i := 4) (oi := Oper.mk (some 133) _ _ _ _ _) (v := ?_) rfl (by decide +kernel) (by decide +kernel) (by decide +kernel) (fun _ _ _ h => h) (Or.inl ⟨by rfl, ?_⟩) (by assumption) ?_
                rotate_left
                ·
                 (intro w hSw; (try dsimp only at hSw); go_simp <;> (try with_reducible rfl))
                (try simp only [Act.put, List.setIfInBounds_toArray, List.set_cons_zero, List.set_cons_succ])
                refine wpAnyH_ready (rs := [5]) (by decide +kernel) (by simp) ?_
                refine AllReadyH.cons (o := Oper.mk (some 134) _ _ _ _ _) rfl (fun K hK => ?_) AllReadyH.nil
                go_simp
                (go_at_call 34; refine (shas_any n6 n7 n13 o6 p6 o7 p7 o13 p13 l6 c6 m6 k6 l7 c7 m7 k7 l13 c13 m13 k13 (maxQ a1 a3) (minQ a2 a4) v _ (HMN.1.later (bnext hQ21 (Below.refl _ _).drew)) (HMN.2.later (bnext hQ21 (Below.refl _ _).drew)) (HV.out.1.later (bnext hY21 (Below.refl _ _).drew)) (HMZ.out.2.2.1.mono (by decide)) (HMZ.out.2.2.2.mono (by decide)) (HV.out.2.mono (by decide)) HLM.out (tab_later HTW.out (bnext (bnext HL.out.2.2.2.2.2 hQ21) (Below.refl _ _).drew)) bc HBB).mono ?_; rintro e f1 ⟨rfl, hb⟩; skip; have hbF1 : Below Y18.heap.size Y18 f1 := bnext (Below.refl _ _).drew hb; clear hb)
                (try go_wp2_with fail)
                clear hHeld
                refine hK.out _ _ (by (try dsimp only); first | exact K21.out _ (Below.refl _ _).drew | exact K21.out _ (by assumption)) (fun hHeld => ?_)
                clear hK K
                (try simp only [Act.put, List.setIfInBounds_toArray, List.set_cons_zero, List.set_cons_succ])
                refine wpAnyH_take (i := 6) (oi := Oper.mk (some 128) _ _ _ _ _) (v := ?_) rfl (by decide +kernel) (by decide +kernel) (by decide +kernel) (fun _ _ _ h => h) (Or.inl ⟨by rfl, ?_⟩) (by assumption) ?_
                rotate_left
                ·
                 (intro w hSw; (try dsimp only at hSw); go_simp <;> (try with_reducible rfl))
                (try simp only [Act.put, List.setIfInBounds_toArray, List.set_cons_zero, List.set_cons_succ])
                refine wpAnyH_take (i := 7) (oi := Oper.mk (some 135) _ _ _ _ _) (v := ?_) rfl (by decide +kernel) (by decide +kernel) (by decide +kernel) (fun _ _ _ h => h) (Or.inl ⟨by rfl, ?_⟩) (by assumption) ?_
                rotate_left
                ·
                 (intro w hSw; (try dsimp only at hSw); go_simp <;> (try with_reducible rfl))
                (try simp only [Act.put, List.setIfInBounds_toArray, List.set_cons_zero, List.set_cons_succ])
                refine wpAnyH_take (i := 8) (oi := Oper.mk (some 136) _ _ _ _ _) (v := ?_) rfl (by decide +kernel) (by decide +kernel) (by decide +kernel) (fun _ _ _ h => h) (Or.inl ⟨by rfl, ?_⟩) (by assumption) ?_
                rotate_left
                ·
                 (intro w hSw; (try dsimp only at hSw); go_simp <;> (try with_reducible rfl))
                (try simp only [Act.put, List.setIfInBounds_toArray, List.set_cons_zero, List.set_cons_succ])
                refine wpAnyH_take (i := 9) (oi := Oper.mk (some 17) _ _ _ _ _) (v := ?_) rfl (by decide +kernel) (by decide +kernel) (by decide +kernel) (fun _ _ _ h => h) (Or.inl ⟨by rfl, ?_⟩) (by assumption) ?_
                rotate_left
                ·
                 (intro w hSw; (try dsimp only at hSw); go_simp <;> (try with_reducible rfl))
                (try simp only [Act.put, List.setIfInBounds_toArray, List.set_cons_zero, List.set_cons_succ])
                refine wpAnyH_take (i := 10) (oi := Oper.mk (some 18) _ _ _ _ _) (v := ?_) rfl (by decide +kernel) (by decide +kernel) (by decide +kernel) (fun _ _ _ h => h) (Or.inl ⟨by rfl, ?_⟩) (by assumption) ?_
                rotate_left
                ·
                 (intro w hSw; (try dsimp only at hSw); go_simp <;> (try with_reducible rfl))
                (try simp only [Act.put, List.setIfInBounds_toArray, List.set_cons_zero, List.set_cons_succ])
                refine wpAnyH_done (by decide +kernel) ?_ _
                refine NoPanic.normal ?_
                obtain ⟨Y22, hX⟩ : ∃ X, X = f1 := ⟨_, rfl⟩
                rw [← hX] at hbF1
                rw [← hX]
                have hQ22 := bnext hQ21 hbF1
                have hY22 := bnext hY21 hbF1
                clear hX hbF1 hHeld hQ21 hY21 K21 HMN HLM HBB
                go_upto_region 22 with fail
                have K22 : Hid (∀ w' : World, Below Y22.heap.size Y22 w' → w'.cell? ⟨r8, 0, none⟩ = some (.bool n8) ∧ w'.cell? ⟨r8, 1, none⟩ = some (.slice o8 l8 c8) ∧ w'.cell? ⟨r8, 2, none⟩ = some (.slice p8 m8 k8) ∧ w'.cell? ⟨r8, 3, none⟩ = some (.bool n9) ∧ w'.cell? ⟨r8, 4, none⟩ = some (.slice o9 l9 c9) ∧ w'.cell? ⟨r8, 5, none⟩ = some (.slice p9 m9 k9) ∧ w'.cell? ⟨g, q * 3, none⟩ = some (.bool n13) ∧ w'.cell? ⟨g, q * 3 + 1, none⟩ = some (.slice o13 l13 c13) ∧ w'.cell? ⟨g, q * 3 + 2, none⟩ = some (.slice p13 m13 k13)) := fun w' h => (by obtain ⟨e1, e2, e3⟩ := HCE.out w' (bnext hQ22 h); have zb := HL.out.1.1.later (bnext hQ22 h) HL.out.1.1.lt; exact ⟨zb.1 0 _ rfl, zb.1 1 _ rfl, zb.1 2 _ rfl, zb.1 3 _ rfl, zb.1 4 _ rfl, zb.1 5 _ rfl, e1, e2, e3⟩)
                go_cut [19, 20] (fun sA sB wx => sA = .bool bd ∧ sB = .int .i64 0 ∧ Below Y22.heap.size Y22 wx)
                case first =>
                 refine wp_region_noPanic ?_
                 refine wp_region_held_drew (S := fun w' => (w'.cell? ⟨r8, 0, none⟩ = some (.bool n8) ∧ w'.cell? ⟨r8, 1, none⟩ = some (.slice o8 l8 c8) ∧ w'.cell? ⟨r8, 2, none⟩ = some (.slice p8 m8 k8) ∧ w'.cell? ⟨r8, 3, none⟩ = some (.bool n9) ∧ w'.cell? ⟨r8, 4, none⟩ = some (.slice o9 l9 c9) ∧ w'.cell? ⟨r8, 5, none⟩ = some (.slice p9 m9 k9) ∧ w'.cell? ⟨g, q * 3, none⟩ = some (.bool n13) ∧ w'.cell? ⟨g, q * 3 + 1, none⟩ = some (.slice o13 l13 c13) ∧ w'.cell? ⟨g, q * 3 + 2, none⟩ = some (.slice p13 m13 k13))) (by kernel_rfl) (by (try dsimp only); exact K22.out _ (Below.refl _ _).drew) (fun hHeld => ?_)
                 refine wpAnyH_take (i := 0) (oi := Oper.mk (some 138) _ _ _ _ _) (v := ?_) rfl (by decide +kernel) (by decide +kernel) (by decide +kernel) (fun _ _ _ h => h) (Or.inl ⟨by rfl, ?_⟩) (by assumption) ?_
                 rotate_left
                 ·
                  (intro w hSw; (try dsimp only at hSw); go_simp <;> (try with_reducible rfl))
                 (try simp only [Act.put, List.setIfInBounds_toArray, List.set_cons_zero, List.set_cons_succ])
                 refine wpAnyH_take (i := 1) (oi := Oper.mk (some 139) _ _ _ _ _) (v := ?_) rfl (by decide +kernel) (by decide +kernel) (by decide +kernel) (fun _ _ _ h => h) (Or.inl ⟨by rfl, ?_⟩) (by assumption) ?_
                 rotate_left
                 ·
                  (intro w hSw; (try dsimp only at hSw); go_simp <;> (try with_reducible rfl))
                 (try simp only [Act.put, List.setIfInBounds_toArray, List.set_cons_zero, List.set_cons_succ])
                 refine wpAnyH_take (i := 2) (oi := Oper.mk (some 140) _ _ _ _ _) (v := ?_) rfl (by decide +kernel) (by decide +kernel) (by decide +kernel) (fun _ _ _ h => h) (Or.inl ⟨by rfl, ?_⟩) (by assumption) ?_
                 rotate_left
                 ·
                  (intro w hSw; (try dsimp only at hSw); go_simp <;> (try with_reducible rfl))
                 (try simp only [Act.put, List.setIfInBounds_toArray, List.set_cons_zero, List.set_cons_succ])
                 refine wpAnyH_take (i := 3) (oi := Oper.mk (some 141) _ _ _ _ _) (v := ?_) rfl (by decide +kernel) (by decide +kernel) (by decide +kernel) (fun _ _ _ h => h) (Or.inl ⟨by rfl, ?_⟩) (by assumption) ?_
                 rotate_left
                 ·
                  (intro w hSw; (try dsimp only at hSw); go_simp <;> (try with_reducible rfl))
                 (try simp only [Act.put, List.setIfInBounds_toArray, List.set_cons_zero, List.set_cons_succ])
                 refine wpAnyH_take (i := 4) (oi := Oper.mk (some 142) _ _ _ _ _) (v := ?_) rfl (by decide +kernel) (by decide +kernel) (by decide +kernel) (fun _ _ _ h => h) (Or.inl ⟨by rfl, ?_⟩) (by assumption) ?_
                 rotate_left
                 ·
                  (intro w hSw; (try dsimp only at hSw); go_simp <;> (try with_reducible rfl))
                 (try simp only [Act.put, List.setIfInBounds_toArray, List.set_cons_zero, List.set_cons_succ])
                 refine wpAnyH_ready (rs := [5]) (by decide +kernel) (by simp) ?_
                 refine AllReadyH.cons (o := Oper.mk (some 143) _ _ _ _ _) rfl (fun K hK => ?_) AllReadyH.nil
                 go_simp
                 (go_at_call 34; refine (shas_any n8 n9 n13 o8 p8 o9 p9 o13 p13 l8 c8 m8 k8 l9 c9 m9 k9 l13 c13 m13 k13 a1 ((a1 + a2) * half2) v _ (HL.out.2.1.1.later (bnext hQ22 (Below.refl _ _).drew)) (HL.out.2.1.2.later (bnext hQ22 (Below.refl _ _).drew)) (HV.out.1.later (bnext hY22 (Below.refl _ _).drew)) (HZ.out.1.1.mono (by decide)) (HMZ.out.1.mono (by decide)) (HV.out.2.mono (by decide)) HMM.out.1 (tab_later HTW.out (bnext (bnext HL.out.2.2.2.2.2 hQ22) (Below.refl _ _).drew)) bd HB.out.2.2.1).mono ?_; rintro e f1 ⟨rfl, hb⟩; skip; have hbF1 : Below Y22.heap.size Y22 f1 := bnext (Below.refl _ _).drew hb; clear hb)
                 (try go_wp2_with fail)
                 clear hHeld
                 refine hK.out _ _ (by (try dsimp only); first | exact K22.out _ (Below.refl _ _).drew | exact K22.out _ (by assumption)) (fun hHeld => ?_)
                 clear hK K
                 (try simp only [Act.put, List.setIfInBounds_toArray, List.set_cons_zero, List.set_cons_succ])
                 refine wpAnyH_take (i := 6) (oi := Oper.mk (some 137) _ _ _ _ _) (v := ?_) rfl (by decide +kernel) (by decide +kernel) (by decide +kernel) (fun _ _ _ h => h) (Or.inl ⟨by rfl, ?_⟩) (by assumption) ?_
                 rotate_left
                 ·
                  (intro w hSw; (try dsimp only at hSw); go_simp <;> (try with_reducible rfl))
                 (try simp only [Act.put, List.setIfInBounds_toArray, List.set_cons_zero, List.set_cons_succ])
                 refine wpAnyH_take (i := 7) (oi := Oper.mk (some 144) _ _ _ _ _) (v := ?_) rfl (by decide +kernel) (by decide +kernel) (by decide +kernel) (fun _ _ _ h => h) (Or.inl ⟨by rfl, ?_⟩) (by assumption) ?_
                 rotate_left
                 ·
                  (intro w hSw; (try dsimp only at hSw); go_simp <;> (try with_reducible rfl))
                 (try simp only [Act.put, List.setIfInBounds_toArray, List.set_cons_zero, List.set_cons_succ])
                 refine wpAnyH_take (i := 8) (oi := Oper.mk (some 145) _ _ _ _ _) (v := ?_) rfl (by decide +kernel) (by decide +kernel) (by decide +kernel) (fun _ _ _ h => h) (Or.inl ⟨by rfl, ?_⟩) (by assumption) ?_
                 rotate_left
                 ·
                  (intro w hSw; (try dsimp only at hSw); go_simp <;> (try with_reducible rfl))
                 (try simp only [Act.put, List.setIfInBounds_toArray, List.set_cons_zero, List.set_cons_succ])
                 refine wpAnyH_take (i := 9) (oi := Oper.mk (some 19) _ _ _ _ _) (v := ?_) rfl (by decide +kernel) (by decide +kernel) (by decide +kernel) (fun _ _ _ h => h) (Or.inl ⟨by rfl, ?_⟩) (by assumption) ?_
                 rotate_left
                 ·
                  (intro w hSw; (try dsimp only at hSw); go_simp <;> (try with_reducible rfl))
                 (try simp only [Act.put, List.setIfInBounds_toArray, List.set_cons_zero, List.set_cons_succ])
                 refine wpAnyH_take (i := 10) (oi := Oper.mk (some 20) _ _ _ _ _) (v := ?_) rfl (by decide +kernel) (by decide +kernel) (by decide +kernel) (fun _ _ _ h => h) (Or.inl ⟨by rfl, ?_⟩) (by assumption) ?_
                 rotate_left
                 ·
                  (intro w hSw; (try dsimp only at hSw); go_simp <;> (try with_reducible rfl))
                 (try simp only [Act.put, List.setIfInBounds_toArray, List.set_cons_zero, List.set_cons_succ])
                 refine wpAnyH_done (by decide +kernel) ?_ _
                 refine NoPanic.normal ?_
                 go_wp2
                 go_meet
                 exact ⟨rfl, rfl, hbF1⟩
                case rest =>
                 obtain ⟨rfl, rfl, hb9⟩ := hcut
                 obtain ⟨Y23, hX⟩ : ∃ X, X = wc := ⟨_, rfl⟩
                 rw [← hX] at hb9
                 rw [← hX]
                 have hQ23 := bnext hQ22 hb9
                 have hY23 := bnext hY22 hb9
                 clear hX hb9 K22
                 go_upto_region 23 with fail
                 have K23 : Hid (∀ w' : World, Below Y23.heap.size Y23 w' → w'.cell? ⟨r9, 0, none⟩ = some (.bool n10) ∧ w'.cell? ⟨r9, 1, none⟩ = some (.slice o10 l10 c10) ∧ w'.cell? ⟨r9, 2, none⟩ = some (.slice p10 m10 k10) ∧ w'.cell? ⟨r9, 3, none⟩ = some (.bool n11) ∧ w'.cell? ⟨r9, 4, none⟩ = some (.slice o11 l11 c11) ∧ w'.cell? ⟨r9, 5, none⟩ = some (.slice p11 m11 k11) ∧ w'.cell? ⟨g, q * 3, none⟩ = some (.bool n13) ∧ w'.cell? ⟨g, q * 3 + 1, none⟩ = some (.slice o13 l13 c13) ∧ w'.cell? ⟨g, q * 3 + 2, none⟩ = some (.slice p13 m13 k13)) := fun w' h => (by obtain ⟨e1, e2, e3⟩ := HCE.out w' (bnext hQ23 h); have zb := HL.out.1.2.1.later (bnext hQ23 h) HL.out.1.2.1.lt; exact ⟨zb.1 0 _ rfl, zb.1 1 _ rfl, zb.1 2 _ rfl, zb.1 3 _ rfl, zb.1 4 _ rfl, zb.1 5 _ rfl, e1, e2, e3⟩)
                 go_cut [21, 22] (fun sA sB wx => sA = .bool be ∧ sB = .int .i64 0 ∧ Below Y23.heap.size Y23 wx)
                 case first =>
                  refine wp_region_noPanic ?_
                  refine wp_region_held_drew (S := fun w' => (w'.cell? ⟨r9, 0, none⟩ = some (.bool n10) ∧ w'.cell? ⟨r9, 1, none⟩ = some (.slice o10 l10 c10) ∧ w'.cell? ⟨r9, 2, none⟩ = some (.slice p10 m10 k10) ∧ w'.cell? ⟨r9, 3, none⟩ = some (.bool n11) ∧ w'.cell? ⟨r9, 4, none⟩ = some (.slice o11 l11 c11) ∧ w'.cell? ⟨r9, 5, none⟩ = some (.slice p11 m11 k11) ∧ w'.cell? ⟨g, q * 3, none⟩ = some (.bool n13) ∧ w'.cell? ⟨g, q * 3 + 1, none⟩ = some (.slice o13 l13 c13) ∧ w'.cell? ⟨g, q * 3 + 2, none⟩ = some (.slice p13 m13 k13))) (by kernel_rfl) (by (try dsimp only); exact K23.out _ (Below.refl _ _).drew) (fun hHeld => ?_)
                  refine wpAnyH_take (i := 0) (oi := Oper.mk (some 147) _ _ _ _ _) (v := ?_) rfl (by decide +kernel) (by decide +kernel) (by decide +kernel) (fun _ _ _ h => h) (Or.inl ⟨by rfl, ?_⟩) (by assumption) ?_
                  rotate_left
                  ·
                   (intro w hSw; (try dsimp only at hSw); go_simp <;> (try with_reducible rfl))
                  (try simp only [Act.put, List.setIfInBounds_toArray, List.set_cons_zero, List.set_cons_succ])
                  refine wpAnyH_take (i := 1) (oi := Oper.mk (some 148) _ _ _ _ _) (v := ?_) rfl (by decide +kernel) (by decide +kernel) (by decide +kernel) (fun _ _ _ h => h) (Or.inl ⟨by rfl, ?_⟩) (by assumption) ?_
                  rotate_left
                  ·
                   (intro w hSw; (try dsimp only at hSw); go_simp <;> (try with_reducible rfl))
                  (try simp only [Act.put, List.setIfInBounds_toArray, List.set_cons_zero, List.set_cons_succ])
                  refine wpAnyH_take (i := 2) (oi := Oper.mk (some 149) _ _ _ _ _) (v := ?_) rfl (by decide +kernel) (by decide +kernel) (by decide +kernel) (fun _ _ _ h => h) (Or.inl ⟨by rfl, ?_⟩) (by assumption) ?_
                  rotate_left
                  ·
                   (intro w hSw; (try dsimp only at hSw); go_simp <;> (try with_reducible rfl))
                  (try simp only [Act.put, List.setIfInBounds_toArray, List.set_cons_zero, List.set_cons_succ])
                  refine wpAnyH_take (i := 3) (oi := Oper.mk (some 150) _ _ _ _ _) (v := ?_) rfl (by decide +kernel) (by decide +kernel) (by decide +kernel) (fun _ _ _ h => h) (Or.inl ⟨by rfl, ?_⟩) (by assumption) ?_
                  rotate_left
                  ·
                   (intro w hSw; (try dsimp only at hSw); go_simp <;> (try with_reducible rfl))
                  (try simp only [Act.put, List.setIfInBounds_toArray, List.set_cons_zero, List.set_cons_succ])
                  refine wpAnyH_take (i := 4) (oi := Oper.mk (some 151) _ _ _ _ _) (v := ?_) rfl (by decide +kernel) (by decide +kernel) (by decide +kernel) (fun _ _ _ h => h) (Or.inl ⟨by rfl, ?_⟩) (by assumption) ?_
                  rotate_left
                  ·
                   (intro w hSw; (try dsimp only at hSw); go_simp <;> (try with_reducible rfl))
                  (try simp only [Act.put, List.setIfInBounds_toArray, List.set_cons_zero, List.set_cons_succ])
                  refine wpAnyH_ready (rs := [5]) (by decide +kernel) (by simp) ?_
                  refine AllReadyH.cons (o := Oper.mk (some 152) _ _ _ _ _) rfl (fun K hK => ?_) AllReadyH.nil
                  go_simp
                  (go_at_call 34; refine (shas_any n10 n11 n13 o10 p10 o11 p11 o13 p13 l10 c10 m10 k10 l11 c11 m11 k11 l13 c13 m13 k13 ((a1 + a2) * half2) a2 v _ (HL.out.2.2.1.1.later (bnext hQ23 (Below.refl _ _).drew)) (HL.out.2.2.1.2.later (bnext hQ23 (Below.refl _ _).drew)) (HV.out.1.later (bnext hY23 (Below.refl _ _).drew)) (HMZ.out.1.mono (by decide)) (HZ.out.1.2.mono (by decide)) (HV.out.2.mono (by decide)) HMM.out.2 (tab_later HTW.out (bnext (bnext HL.out.2.2.2.2.2 hQ23) (Below.refl _ _).drew)) be HB.out.2.2.2).mono ?_; rintro e f1 ⟨rfl, hb⟩; skip; have hbF1 : Below Y23.heap.size Y23 f1 := bnext (Below.refl _ _).drew hb; clear hb)
                  (try go_wp2_with fail)
                  clear hHeld
                  refine hK.out _ _ (by (try dsimp only); first | exact K23.out _ (Below.refl _ _).drew | exact K23.out _ (by assumption)) (fun hHeld => ?_)
                  clear hK K
                  (try simp only [Act.put, List.setIfInBounds_toArray, List.set_cons_zero, List.set_cons_succ])
                  refine wpAnyH_take (i := 6) (oi := Oper.mk (some 146) _ _ _ _ _) (v := ?_) rfl (by decide +kernel) (by decide +kernel) (by decide +kernel) (fun _ _ _ h => h) (Or.inl ⟨by rfl, ?_⟩) (by assumption) ?_
                  rotate_left
                  ·
                   (intro w hSw; (try dsimp only at hSw); go_simp <;> (try with_reducible rfl))
                  (try simp only [Act.put, List.setIfInBounds_toArray, List.set_cons_zero, List.set_cons_succ])
                  refine wpAnyH_take (i := 7) (oi := Oper.mk (some 153) _ _ _ _ _) (v := ?_) rfl (by decide +kernel) (by decide +kernel) (by decide +kernel) (fun _ _ _ h => h) (Or.inl ⟨by rfl, ?_⟩) (by assumption) ?_
                  rotate_left
                  ·
                   (intro w hSw; (try dsimp only at hSw); go_simp <;> (try with_reducible rfl))
                  (try simp only [Act.put, List.setIfInBounds_toArray, List.set_cons_zero, List.set_cons_succ])
                  refine wpAnyH_take (i := 8) (oi := Oper.mk (some 154) _ _ _ _ _) (v := ?_) rfl (by decide +kernel) (by decide +kernel) (by decide +kernel) (fun _ _ _ h => h) (Or.inl ⟨by rfl, ?_⟩) (by assumption) ?_
                  rotate_left
                  ·
                   (intro w hSw; (try dsimp only at hSw); go_simp <;> (try with_reducible rfl))
                  (try simp only [Act.put, List.setIfInBounds_toArray, List.set_cons_zero, List.set_cons_succ])
                  refine wpAnyH_take (i := 9) (oi := Oper.mk (some 21) _ _ _ _ _) (v := ?_) rfl (by decide +kernel) (by decide +kernel) (by decide +kernel) (fun _ _ _ h => h) (Or.inl ⟨by rfl, ?_⟩) (by assumption) ?_
                  rotate_left
                  ·
                   (intro w hSw; (try dsimp only at hSw); go_simp <;> (try with_reducible rfl))
                  (try simp only [Act.put, List.setIfInBounds_toArray, List.set_cons_zero, List.set_cons_succ])
                  refine wpAnyH_take (i := 10) (oi := Oper.mk (some 22) _ _ _ _ _) (v := ?_) rfl (by decide +kernel) (by decide +kernel) (by decide +kernel) (fun _ _ _ h => h) (Or.inl ⟨by rfl, ?_⟩) (by assumption) ?_
                  rotate_left
                  ·
                   (intro w hSw; (try dsimp only at hSw); go_simp <;> (try with_reducible rfl))
                  (try simp only [Act.put, List.setIfInBounds_toArray, List.set_cons_zero, List.set_cons_succ])
                  refine wpAnyH_done (by decide +kernel) ?_ _
                  refine NoPanic.normal ?_
                  go_wp2
                  go_meet
                  exact ⟨rfl, rfl, hbF1⟩
                 case rest =>
                  obtain ⟨rfl, rfl, hb9⟩ := hcut
                  obtain ⟨Y24, hX⟩ : ∃ X, X = wc := ⟨_, rfl⟩
                  rw [← hX] at hb9
                  rw [← hX]
                  have hQ24 := bnext hQ23 hb9
                  have hY24 := bnext hY23 hb9
                  clear hX hb9 K23
                  have hcc := HBC.out.1
                  have hee := HEE.out
                  clear HBC HEE HB HV HCE HMM
                  cases bc <;> cases ba <;> cases bb <;> cases bd <;> cases be <;> first | (exfalso; revert hcc; decide) | (exfalso; revert hee; decide) | skip
                  all_goals (
                   clear hcc hee
                   go_wp2_with (go_at_call 15; refine (num3_any 0 _).mono ?_; rintro e xn ⟨rfl, hxn⟩; replace hxn := hxn.symm; subst hxn)
                   go_roundw)
                  all_goals (first
                   | exact ⟨q + 1, by omega, by go_num, hQ24⟩
                   | (simp [intOf]; omega))
            ·
             as_aux_lemma =>
             obtain rfl : q = 6 := by omega
             have e8 := HL.out.1.1.later hbq HL.out.1.1.lt
             have e9 := HL.out.1.2.1.later hbq HL.out.1.2.1.lt
             have y0 := e8.1 0 _ rfl; have y1 := e8.1 1 _ rfl; have y2 := e8.1 2 _ rfl; have y3 := e8.1 3 _ rfl; have y4 := e8.1 4 _ rfl; have y5 := e8.1 5 _ rfl
             have t0 := e9.1 0 _ rfl; have t1 := e9.1 1 _ rfl; have t2 := e9.1 2 _ rfl; have t3 := e9.1 3 _ rfl; have t4 := e9.1 4 _ rfl; have t5 := e9.1 5 _ rfl
             clear e8 e9
             have hl9 : l9 ≤ 200 := (HL.out.2.1.2.len HMZ.out.1).1
             have hm9 : m9 ≤ 200 := (HL.out.2.1.2.len HMZ.out.1).2
             go_wp2_with (go_at_call 35; refine (eqrat_same n9 n10 o9 p9 o10 p10 l9 c9 m9 k9 l10 c10 m10 k10 ((a1 + a2) * half2) _ (HL.out.2.1.2.later hbq) (HL.out.2.2.1.1.later hbq) (by omega) (by omega)).mono ?_; rintro e y9 ⟨rfl, hb9⟩)
             go_roundw
             case rel => exact ⟨k + 1, by omega, by omega, by go_num, bnext hbW (bnext HL.out.2.2.2.2.2 (bnext hbq hb9))⟩
             case measure => simp [intOf]; omega
    ·
     as_aux_lemma =>
     have HH : Hid ((((((decide ((4 : Int) < (l1 : Int)) || decide ((4 : Int) < (m1 : Int))) || (decide ((4 : Int) < (l2 : Int)) || decide ((4 : Int) < (m2 : Int)))) || (decide ((4 : Int) < (l3 : Int)) || decide ((4 : Int) < (m3 : Int)))) || (decide ((4 : Int) < (l4 : Int)) || decide ((4 : Int) < (m4 : Int)))) || (decide ((4 : Int) < (l5 : Int)) || decide ((4 : Int) < (m5 : Int)))) = true) := hhv
     clear hhv
     go_wp2_with (go_at_call 6; refine (heavyS_any n1 n2 n3 n4 n5 o1 p1 o2 p2 o3 p3 o4 p4 o5 p5 l1 c1 m1 k1 l2 c2 m2 k2 l3 c3 m3 k3 l4 c4 m4 k4 l5 c5 m5 k5 N _ true HH.out).mono ?_; rintro e w1 ⟨rfl, hb1⟩)
     go_ret
     exact ⟨rfl, bnext hbW hb1⟩
  ·
   have hwk : ∀ X, Below w.heap.size w X → Calls Tryz.prog 26 #[] X fun e w' => e = .returned (.bool true) ∧ Below X.heap.size X w' := fun X h => wakes3_any X (tab_later HT.out h)
   have hend : ¬ k < len ∨ k = 30 := by omega
   clear hlt
   rcases hend with he | he
   ·
    as_aux_lemma =>
    go_wp2_with (go_at_call 26; refine (hwk _ hbel).mono ?_; rintro e w9 ⟨rfl, hb9⟩)
    go_ret
    exact ⟨rfl, bnext hbel hb9⟩
   ·
    subst he
    by_cases hq : 30 < len
    ·
     as_aux_lemma =>
     go_wp2_with (go_at_call 26; refine (hwk _ hbel).mono ?_; rintro e w9 ⟨rfl, hb9⟩)
     go_ret
     exact ⟨rfl, bnext hbel hb9⟩
    ·
     as_aux_lemma =>
     go_wp2_with (go_at_call 26; refine (hwk _ hbel).mono ?_; rintro e w9 ⟨rfl, hb9⟩)
     go_ret
     exact ⟨rfl, bnext hbel hb9⟩
end Go.Proofs.YthgnaceokcaieaaGreatDoor
