/-
  A pack of walks and facts: TL.
-/
import Derived.Test.YtbkaiifplahhpaaGreatDoorPE07
import Derived.Test.YtbkaiifplahhpaaGreatDoorPE21
import Derived.Test.YtbkaiifplahhpaaGreatDoorPE22
import Derived.Deep.DeepCutAuto
set_option maxRecDepth 100000
set_option maxHeartbeats 40000000
set_option linter.unusedVariables false
set_option linter.unusedSimpArgs false
namespace Go.Proofs.YtbkaiifplahhpaaGreatDoor
open Go.RowKit
theorem three_build (n1 n2 n3 : Bool) (o1 p1 o2 p2 o3 p3 : Option Addr) (l1 c1 m1 k1 l2 c2 m2 k2 l3 c3 m3 k3 : Nat) (w : World) : (Instr.buildSlice 57 3 #[(0, .agg #[.bool n1, .slice o1 l1 c1, .slice p1 m1 k1]), (1, .agg #[.bool n2, .slice o2 l2 c2, .slice p2 m2 k2]), (2, .agg #[.bool n3, .slice o3 l3 c3, .slice p3 m3 k3])]).run Tryz.prog w = .ok (.slice (some ⟨w.heap.size, 0, none⟩) 3 3) (w.alloc (.cells #[.bool n1, .slice o1 l1 c1, .slice p1 m1 k1, .bool n2, .slice o2 l2 c2, .slice p2 m2 k2, .bool n3, .slice o3 l3 c3, .slice p3 m3 k3] 28)) := by kernel_rfl
theorem spanHolds_any (lo : Option Addr) (len cap : Nat) (w : World) (hE : ElemsS w lo len) (hNN : ElemsN w lo len) (hl : len ≤ 9223372036854775807) (hT0 : TabAt 0 Lib.deBruijn64tab w) :
  Calls Tryz.prog 4 #[.slice lo len cap] w fun e w' => e = .returned (.bool true) ∧ Below w.heap.size w w' := by
 have HT : Hid (TabAt 0 Lib.deBruijn64tab w) := hT0
 clear hT0
 go_enter Tryz.func4, Tryz.ntmps4
 go_wp2
 go_loopw [3] (fun i wr => ∃ k : Nat, k ≤ len ∧ k ≤ 30 ∧ i = .int .i64 k ∧ Below w.heap.size w wr) (fun i _ => 30 - (intOf i).toNat)
 case atStart => exact ⟨0, Nat.zero_le _, by omega, rfl, Below.refl _ _⟩
 case round =>
  obtain ⟨k, hk, hk30, rfl, hbel⟩ := hrel
  by_cases hlt : k < len ∧ k < 30
  ·
   obtain ⟨hlt, hlt30⟩ := hlt
   obtain ⟨b, off, rfl, hbw, hel⟩ := hE k hlt
   obtain ⟨N0, hN0, hNr⟩ := hNN k hlt b off rfl
   replace hN0 := (hbel.cell (p := ⟨b, off + k * 16 + 15, none⟩) hbw).trans hN0
   refine (hel.later hbel hbw).elim ?_
   intro n1 n2 n3 n4 n5 o1 p1 o2 p2 o3 p3 o4 p4 o5 p5 l1 c1 m1 k1 l2 c2 m2 k2 l3 c3 m3 k3 l4 c4 m4 k4 l5 c5 m5 k5 N x1 d1 x2 d2 x3 d3 x4 d4 x5 d5 hc hrow
   have h0 : wr.cell? ⟨b, off + k * 16, none⟩ = _ := hc 0 _ rfl
   have h1 := hc 1 _ rfl; have h2 := hc 2 _ rfl; have h3 := hc 3 _ rfl; have h4 := hc 4 _ rfl; have h5 := hc 5 _ rfl; have h6 := hc 6 _ rfl; have h7 := hc 7 _ rfl; have h8 := hc 8 _ rfl; have h9 := hc 9 _ rfl; have h10 := hc 10 _ rfl; have h11 := hc 11 _ rfl; have h12 := hc 12 _ rfl; have h13 := hc 13 _ rfl; have h14 := hc 14 _ rfl; have h15 := hc 15 _ rfl
   obtain rfl : N0 = N := by rw [h15] at hN0; simpa using hN0.symm
   clear hN0
   have HNR : Hid (-9223372036854775808 ≤ N0 ∧ N0 ≤ 9223372036854775807) := hNr
   clear hNr
   go_upto_region 4 with fail
   go_cut [4] (fun s4 wx => ∃ rP, s4 = .pointer (some ⟨rP, 0, none⟩) ∧ Bx wx rP [.bool n1, .slice o1 l1 c1, .slice p1 m1 k1, .bool n2, .slice o2 l2 c2, .slice p2 m2 k2, .bool n3, .slice o3 l3 c3, .slice p3 m3 k3, .bool n4, .slice o4 l4 c4, .slice p4 m4 k4, .bool n5, .slice o5 l5 c5, .slice p5 m5 k5, .int .i64 N0] ∧ Below wr.heap.size wr wx)
   case first => as_aux_lemma =>
    go_wp2
    go_meet
    exact ⟨_, rfl, Bx.new _ _ _, (Below.refl _ _).alloc (Nat.le_refl _) _⟩
   case rest =>
    obtain ⟨rP, rfl, hP, hbW'⟩ := hcut
    obtain ⟨W, hX⟩ : ∃ X, X = wc := ⟨_, rfl⟩
    rw [← hX] at hP hbW'
    rw [← hX]
    clear hX h0 h1 h2 h3 h4 h5 h6 h7 h8 h9 h10 h11 h12 h13 h14 h15
    have hsz := hP.lt
    have hbW : Below w.heap.size w W := bnext hbel hbW'
    have HX : Hid ((RowAt W .u64 o1 l1 c1 x1 ∧ Wd 18446744073709551616 x1 ∧ RowAt W .u64 p1 m1 k1 d1 ∧ Wd 18446744073709551616 d1) ∧ (RowAt W .u64 o2 l2 c2 x2 ∧ Wd 18446744073709551616 x2 ∧ RowAt W .u64 p2 m2 k2 d2 ∧ Wd 18446744073709551616 d2) ∧ (RowAt W .u64 o3 l3 c3 x3 ∧ Wd 18446744073709551616 x3 ∧ RowAt W .u64 p3 m3 k3 d3 ∧ Wd 18446744073709551616 d3) ∧ (RowAt W .u64 o4 l4 c4 x4 ∧ Wd 18446744073709551616 x4 ∧ RowAt W .u64 p4 m4 k4 d4 ∧ Wd 18446744073709551616 d4) ∧ (RowAt W .u64 o5 l5 c5 x5 ∧ Wd 18446744073709551616 x5 ∧ RowAt W .u64 p5 m5 k5 d5 ∧ Wd 18446744073709551616 d5)) := (by obtain ⟨⟨r1, v1, s1, t1⟩, ⟨r2, v2, s2, t2⟩, ⟨r3, v3, s3, t3⟩, ⟨r4, v4, s4, t4⟩, ⟨r5, v5, s5, t5⟩⟩ := hrow; exact ⟨⟨r1.later hbW', v1, s1.later hbW', t1⟩, ⟨r2.later hbW', v2, s2.later hbW', t2⟩, ⟨r3.later hbW', v3, s3.later hbW', t3⟩, ⟨r4.later hbW', v4, s4.later hbW', t4⟩, ⟨r5.later hbW', v5, s5.later hbW', t5⟩⟩)
    have HTW : Hid (TabAt 0 Lib.deBruijn64tab W) := tab_later HT.out hbW
    clear hrow hel hc hbW'
    have zb := hP; have z0 := zb.1 0 _ rfl; have z1 := zb.1 1 _ rfl; have z2 := zb.1 2 _ rfl; have z3 := zb.1 3 _ rfl; have z4 := zb.1 4 _ rfl; have z5 := zb.1 5 _ rfl; have z6 := zb.1 6 _ rfl; have z7 := zb.1 7 _ rfl; have z8 := zb.1 8 _ rfl; have z9 := zb.1 9 _ rfl; have z10 := zb.1 10 _ rfl; have z11 := zb.1 11 _ rfl; have z12 := zb.1 12 _ rfl; have z13 := zb.1 13 _ rfl; have z14 := zb.1 14 _ rfl; have z15 := zb.1 15 _ rfl; clear zb
    cases hhv : (((((decide ((4 : Int) < (l1 : Int)) || decide ((4 : Int) < (m1 : Int))) || (decide ((4 : Int) < (l2 : Int)) || decide ((4 : Int) < (m2 : Int)))) || (decide ((4 : Int) < (l3 : Int)) || decide ((4 : Int) < (m3 : Int)))) || (decide ((4 : Int) < (l4 : Int)) || decide ((4 : Int) < (m4 : Int)))) || (decide ((4 : Int) < (l5 : Int)) || decide ((4 : Int) < (m5 : Int))))
    ·
     have HH : Hid ((((((decide ((4 : Int) < (l1 : Int)) || decide ((4 : Int) < (m1 : Int))) || (decide ((4 : Int) < (l2 : Int)) || decide ((4 : Int) < (m2 : Int)))) || (decide ((4 : Int) < (l3 : Int)) || decide ((4 : Int) < (m3 : Int)))) || (decide ((4 : Int) < (l4 : Int)) || decide ((4 : Int) < (m4 : Int)))) || (decide ((4 : Int) < (l5 : Int)) || decide ((4 : Int) < (m5 : Int)))) = false) := hhv
     have hl1 : l1 ≤ 4 := by simp at hhv; omega
     have hm1 : m1 ≤ 4 := by simp at hhv; omega
     have hl2 : l2 ≤ 4 := by simp at hhv; omega
     have hm2 : m2 ≤ 4 := by simp at hhv; omega
     have hl3 : l3 ≤ 4 := by simp at hhv; omega
     have hm3 : m3 ≤ 4 := by simp at hhv; omega
     have hl4 : l4 ≤ 4 := by simp at hhv; omega
     have hm4 : m4 ≤ 4 := by simp at hhv; omega
     clear hhv
     obtain ⟨rS, hS, hS'⟩ := smay_is n1 n2 o1 p1 o2 p2 l1 c1 m1 k1 l2 c2 m2 k2 x1 d1 x2 d2 W HX.out.1.1 HX.out.1.2.1 HX.out.1.2.2.1 HX.out.1.2.2.2 HX.out.2.1.1 HX.out.2.1.2.1 HX.out.2.1.2.2.1 HX.out.2.1.2.2.2 hl1 hm1 hl2 hm2
     have HS : Hid (∀ X, Below W.heap.size W X → Calls Tryz.prog 6 #[.agg #[.bool n1, .slice o1 l1 c1, .slice p1 m1 k1, .bool n2, .slice o2 l2 c2, .slice p2 m2 k2]] X fun e w' => e = .returned (.bool rS) ∧ Below X.heap.size X w') := hS
     obtain ⟨rT, hT, hT'⟩ := smay_is n3 n4 o3 p3 o4 p4 l3 c3 m3 k3 l4 c4 m4 k4 x3 d3 x4 d4 W HX.out.2.2.1.1 HX.out.2.2.1.2.1 HX.out.2.2.1.2.2.1 HX.out.2.2.1.2.2.2 HX.out.2.2.2.1.1 HX.out.2.2.2.1.2.1 HX.out.2.2.2.1.2.2.1 HX.out.2.2.2.1.2.2.2 hl3 hm3 hl4 hm4
     have HTT : Hid (∀ X, Below W.heap.size W X → Calls Tryz.prog 6 #[.agg #[.bool n3, .slice o3 l3 c3, .slice p3 m3 k3, .bool n4, .slice o4 l4 c4, .slice p4 m4 k4]] X fun e w' => e = .returned (.bool rT) ∧ Below X.heap.size X w') := hT
     clear hS hT
     cases rS
     ·
      clear hS' hT' HTT
      as_aux_lemma =>
      go_wp2_with (first
       | (go_at_call 6; have _t := hb1; refine (HS.out _ hb1).mono ?_; rintro e w2 ⟨rfl, hb⟩; have hb2 := bnext hb1 hb; clear hb hb1 z0 z1 z2 z3 z4 z5 z6 z7 z8 z9 z10 z11 z12 z13 z14 z15; have zb := hP.later hb2 (by omega); have z0 := zb.1 0 _ rfl; have z1 := zb.1 1 _ rfl; have z2 := zb.1 2 _ rfl; have z3 := zb.1 3 _ rfl; have z4 := zb.1 4 _ rfl; have z5 := zb.1 5 _ rfl; have z6 := zb.1 6 _ rfl; have z7 := zb.1 7 _ rfl; have z8 := zb.1 8 _ rfl; have z9 := zb.1 9 _ rfl; have z10 := zb.1 10 _ rfl; have z11 := zb.1 11 _ rfl; have z12 := zb.1 12 _ rfl; have z13 := zb.1 13 _ rfl; have z14 := zb.1 14 _ rfl; have z15 := zb.1 15 _ rfl; clear zb)
       | (go_at_call 5; refine (heavyS_any n1 n2 n3 n4 n5 o1 p1 o2 p2 o3 p3 o4 p4 o5 p5 l1 c1 m1 k1 l2 c2 m2 k2 l3 c3 m3 k3 l4 c4 m4 k4 l5 c5 m5 k5 N0 _ false HH.out).mono ?_; rintro e w1 ⟨rfl, hb1⟩; clear z0 z1 z2 z3 z4 z5 z6 z7 z8 z9 z10 z11 z12 z13 z14 z15; have zb := hP.later hb1 (by omega); have z0 := zb.1 0 _ rfl; have z1 := zb.1 1 _ rfl; have z2 := zb.1 2 _ rfl; have z3 := zb.1 3 _ rfl; have z4 := zb.1 4 _ rfl; have z5 := zb.1 5 _ rfl; have z6 := zb.1 6 _ rfl; have z7 := zb.1 7 _ rfl; have z8 := zb.1 8 _ rfl; have z9 := zb.1 9 _ rfl; have z10 := zb.1 10 _ rfl; have z11 := zb.1 11 _ rfl; have z12 := zb.1 12 _ rfl; have z13 := zb.1 13 _ rfl; have z14 := zb.1 14 _ rfl; have z15 := zb.1 15 _ rfl; clear zb))
      go_roundw
      case rel => exact ⟨k + 1, by omega, by omega, by go_num, bnext hbW hb2⟩
      case measure => simp [intOf]; omega
     ·
      cases rT
      ·
       clear hS' hT'
       as_aux_lemma =>
       go_wp2_with (first
        | (go_at_call 6; have _t := hb2; refine (HTT.out _ hb2).mono ?_; rintro e w3 ⟨rfl, hb⟩; have hb3 := bnext hb2 hb; clear hb hb2 z0 z1 z2 z3 z4 z5 z6 z7 z8 z9 z10 z11 z12 z13 z14 z15; have zb := hP.later hb3 (by omega); have z0 := zb.1 0 _ rfl; have z1 := zb.1 1 _ rfl; have z2 := zb.1 2 _ rfl; have z3 := zb.1 3 _ rfl; have z4 := zb.1 4 _ rfl; have z5 := zb.1 5 _ rfl; have z6 := zb.1 6 _ rfl; have z7 := zb.1 7 _ rfl; have z8 := zb.1 8 _ rfl; have z9 := zb.1 9 _ rfl; have z10 := zb.1 10 _ rfl; have z11 := zb.1 11 _ rfl; have z12 := zb.1 12 _ rfl; have z13 := zb.1 13 _ rfl; have z14 := zb.1 14 _ rfl; have z15 := zb.1 15 _ rfl; clear zb)
        | (go_at_call 6; have _t := hb1; refine (HS.out _ hb1).mono ?_; rintro e w2 ⟨rfl, hb⟩; have hb2 := bnext hb1 hb; clear hb hb1 z0 z1 z2 z3 z4 z5 z6 z7 z8 z9 z10 z11 z12 z13 z14 z15; have zb := hP.later hb2 (by omega); have z0 := zb.1 0 _ rfl; have z1 := zb.1 1 _ rfl; have z2 := zb.1 2 _ rfl; have z3 := zb.1 3 _ rfl; have z4 := zb.1 4 _ rfl; have z5 := zb.1 5 _ rfl; have z6 := zb.1 6 _ rfl; have z7 := zb.1 7 _ rfl; have z8 := zb.1 8 _ rfl; have z9 := zb.1 9 _ rfl; have z10 := zb.1 10 _ rfl; have z11 := zb.1 11 _ rfl; have z12 := zb.1 12 _ rfl; have z13 := zb.1 13 _ rfl; have z14 := zb.1 14 _ rfl; have z15 := zb.1 15 _ rfl; clear zb)
        | (go_at_call 5; refine (heavyS_any n1 n2 n3 n4 n5 o1 p1 o2 p2 o3 p3 o4 p4 o5 p5 l1 c1 m1 k1 l2 c2 m2 k2 l3 c3 m3 k3 l4 c4 m4 k4 l5 c5 m5 k5 N0 _ false HH.out).mono ?_; rintro e w1 ⟨rfl, hb1⟩; clear z0 z1 z2 z3 z4 z5 z6 z7 z8 z9 z10 z11 z12 z13 z14 z15; have zb := hP.later hb1 (by omega); have z0 := zb.1 0 _ rfl; have z1 := zb.1 1 _ rfl; have z2 := zb.1 2 _ rfl; have z3 := zb.1 3 _ rfl; have z4 := zb.1 4 _ rfl; have z5 := zb.1 5 _ rfl; have z6 := zb.1 6 _ rfl; have z7 := zb.1 7 _ rfl; have z8 := zb.1 8 _ rfl; have z9 := zb.1 9 _ rfl; have z10 := zb.1 10 _ rfl; have z11 := zb.1 11 _ rfl; have z12 := zb.1 12 _ rfl; have z13 := zb.1 13 _ rfl; have z14 := zb.1 14 _ rfl; have z15 := zb.1 15 _ rfl; clear zb))
       go_roundw
       case rel => exact ⟨k + 1, by omega, by omega, by go_num, bnext hbW hb3⟩
       case measure => simp [intOf]; omega
      ·
       obtain ⟨a1, a2, ha1, ha2, sa1, sa2, hle⟩ := hS' rfl
       obtain ⟨a3, a4, ha3, ha4, sa3, sa4, hle'⟩ := hT' rfl
       have HR : Hid ((RatAt W n1 o1 l1 c1 p1 m1 k1 a1 ∧ RatAt W n2 o2 l2 c2 p2 m2 k2 a2) ∧ (RatAt W n3 o3 l3 c3 p3 m3 k3 a3 ∧ RatAt W n4 o4 l4 c4 p4 m4 k4 a4)) := ⟨⟨ha1, ha2⟩, ⟨ha3, ha4⟩⟩
       have HZ : Hid ((Sz a1 4 ∧ Sz a2 4) ∧ (Sz a3 4 ∧ Sz a4 4)) := ⟨⟨sa1, sa2⟩, ⟨sa3, sa4⟩⟩
       have HLE : Hid (cmpQ a1 a2 ≤ 0 ∧ cmpQ a3 a4 ≤ 0) := ⟨hle, hle'⟩
       have HMZ : Hid (Sz ((a1 + a2) * half2) 100 ∧ Sz ((a3 + a4) * half2) 100) := ⟨((sa1.add sa2).mul sz_half2).mono (by decide), ((sa3.add sa4).mul sz_half2).mono (by decide)⟩
       clear hS' hT' ha1 ha2 ha3 ha4 sa1 sa2 sa3 sa4 hle hle'
       go_upto_region 9 with (first
        | (go_at_call 26; refine (within_any N0 7 _ HNR.out.1 HNR.out.2 (by decide) (by decide)).mono ?_; rintro e xn ⟨nn, hn7, rfl, hxn⟩; replace hxn := hxn.symm; subst hxn)
        | (go_at_call 6; have _t := hb2; refine (HTT.out _ hb2).mono ?_; rintro e w3 ⟨rfl, hb⟩; have hb3 := bnext hb2 hb; clear hb hb2 z0 z1 z2 z3 z4 z5 z6 z7 z8 z9 z10 z11 z12 z13 z14 z15; have zb := hP.later hb3 (by omega); have z0 := zb.1 0 _ rfl; have z1 := zb.1 1 _ rfl; have z2 := zb.1 2 _ rfl; have z3 := zb.1 3 _ rfl; have z4 := zb.1 4 _ rfl; have z5 := zb.1 5 _ rfl; have z6 := zb.1 6 _ rfl; have z7 := zb.1 7 _ rfl; have z8 := zb.1 8 _ rfl; have z9 := zb.1 9 _ rfl; have z10 := zb.1 10 _ rfl; have z11 := zb.1 11 _ rfl; have z12 := zb.1 12 _ rfl; have z13 := zb.1 13 _ rfl; have z14 := zb.1 14 _ rfl; have z15 := zb.1 15 _ rfl; clear zb)
        | (go_at_call 6; have _t := hb1; refine (HS.out _ hb1).mono ?_; rintro e w2 ⟨rfl, hb⟩; have hb2 := bnext hb1 hb; clear hb hb1 z0 z1 z2 z3 z4 z5 z6 z7 z8 z9 z10 z11 z12 z13 z14 z15; have zb := hP.later hb2 (by omega); have z0 := zb.1 0 _ rfl; have z1 := zb.1 1 _ rfl; have z2 := zb.1 2 _ rfl; have z3 := zb.1 3 _ rfl; have z4 := zb.1 4 _ rfl; have z5 := zb.1 5 _ rfl; have z6 := zb.1 6 _ rfl; have z7 := zb.1 7 _ rfl; have z8 := zb.1 8 _ rfl; have z9 := zb.1 9 _ rfl; have z10 := zb.1 10 _ rfl; have z11 := zb.1 11 _ rfl; have z12 := zb.1 12 _ rfl; have z13 := zb.1 13 _ rfl; have z14 := zb.1 14 _ rfl; have z15 := zb.1 15 _ rfl; clear zb)
        | (go_at_call 5; refine (heavyS_any n1 n2 n3 n4 n5 o1 p1 o2 p2 o3 p3 o4 p4 o5 p5 l1 c1 m1 k1 l2 c2 m2 k2 l3 c3 m3 k3 l4 c4 m4 k4 l5 c5 m5 k5 N0 _ false HH.out).mono ?_; rintro e w1 ⟨rfl, hb1⟩; clear z0 z1 z2 z3 z4 z5 z6 z7 z8 z9 z10 z11 z12 z13 z14 z15; have zb := hP.later hb1 (by omega); have z0 := zb.1 0 _ rfl; have z1 := zb.1 1 _ rfl; have z2 := zb.1 2 _ rfl; have z3 := zb.1 3 _ rfl; have z4 := zb.1 4 _ rfl; have z5 := zb.1 5 _ rfl; have z6 := zb.1 6 _ rfl; have z7 := zb.1 7 _ rfl; have z8 := zb.1 8 _ rfl; have z9 := zb.1 9 _ rfl; have z10 := zb.1 10 _ rfl; have z11 := zb.1 11 _ rfl; have z12 := zb.1 12 _ rfl; have z13 := zb.1 13 _ rfl; have z14 := zb.1 14 _ rfl; have z15 := zb.1 15 _ rfl; clear zb))
       clear HS HTT HX HH HNR
       obtain ⟨X0, hX0⟩ : ∃ X, X = w3 := ⟨_, rfl⟩
       rw [← hX0] at hb3
       rw [← hX0]
       clear hX0
       have hb3h : Hid (Below W.heap.size W X0) := hb3
       clear hb3 z0 z1 z2 z3 z4 z5 z6 z7 z8 z9 z10 z11 z12 z13 z14 z15
       have zb := hP.later hb3h.out (by omega); have z0 := zb.1 0 _ rfl; have z1 := zb.1 1 _ rfl; have z2 := zb.1 2 _ rfl; have z3 := zb.1 3 _ rfl; have z4 := zb.1 4 _ rfl; have z5 := zb.1 5 _ rfl; have z6 := zb.1 6 _ rfl; have z7 := zb.1 7 _ rfl; have z8 := zb.1 8 _ rfl; have z9 := zb.1 9 _ rfl; have z10 := zb.1 10 _ rfl; have z11 := zb.1 11 _ rfl; have z12 := zb.1 12 _ rfl; have z13 := zb.1 13 _ rfl; have z14 := zb.1 14 _ rfl; have z15 := zb.1 15 _ rfl; clear zb
       go_cut [6, 7] (fun sA sB wx => ∃ rA n6 o6 l6 c6 p6 m6 k6 n7 o7 l7 c7 p7 m7 k7, sA = .pointer (some ⟨rA, 0, none⟩) ∧ sB = .int .i64 0 ∧ Bx wx rA [.bool n6, .slice o6 l6 c6, .slice p6 m6 k6, .bool n7, .slice o7 l7 c7, .slice p7 m7 k7] ∧ RatAt wx n6 o6 l6 c6 p6 m6 k6 (a1 + a3) ∧ RatAt wx n7 o7 l7 c7 p7 m7 k7 (a2 + a4) ∧ Below X0.heap.size X0 wx)
       case first => as_aux_lemma =>
        go_wp2_with (go_at_call 16; refine (sadd_any n1 n2 n3 n4 o1 p1 o2 p2 o3 p3 o4 p4 l1 c1 m1 k1 l2 c2 m2 k2 l3 c3 m3 k3 l4 c4 m4 k4 a1 a2 a3 a4 _ (HR.out.1.1.later hb3h.out) (HR.out.1.2.later hb3h.out) (HR.out.2.1.later hb3h.out) (HR.out.2.2.later hb3h.out) (HZ.out.1.1.mono (by decide)) (HZ.out.1.2.mono (by decide)) (HZ.out.2.1.mono (by decide)) (HZ.out.2.2.mono (by decide)) HLE.out.1 HLE.out.2 (tab_later HTW.out hb3h.out)).mono ?_; rintro e y ⟨n6, o6, l6, c6, p6, m6, k6, n7, o7, l7, c7, p7, m7, k7, rfl, hn⟩; have HN : Hid (RatAt y n6 o6 l6 c6 p6 m6 k6 (a1 + a3) ∧ RatAt y n7 o7 l7 c7 p7 m7 k7 (a2 + a4) ∧ Below X0.heap.size X0 y) := ⟨hn.lo, hn.hi, hn.2.2.2⟩; clear hn)
        go_meet
        exact ⟨_, n6, o6, l6, c6, p6, m6, k6, n7, o7, l7, c7, p7, m7, k7, rfl, rfl, Bx.new _ _ _, HN.out.1.later ((Below.refl _ _).alloc (Nat.le_refl _) _), HN.out.2.1.later ((Below.refl _ _).alloc (Nat.le_refl _) _), below_alloc HN.out.2.2 (Nat.le_refl _)⟩
       case rest =>
        clear z0 z1 z2 z3 z4 z5 z6 z7 z8 z9 z10 z11 z12 z13 z14 z15
        obtain ⟨r6, n6, o6, l6, c6, p6, m6, k6, n7, o7, l7, c7, p7, m7, k7, rfl, rfl, hbA, h1, h2, hbX⟩ := hcut
        obtain ⟨X1, hX⟩ : ∃ X, X = wc := ⟨_, rfl⟩
        rw [← hX] at hbA h1 h2 hbX
        rw [← hX]
        clear hX
        have HX1 : Hid (Bx X1 r6 [.bool n6, .slice o6 l6 c6, .slice p6 m6 k6, .bool n7, .slice o7 l7 c7, .slice p7 m7 k7] ∧ RatAt X1 n6 o6 l6 c6 p6 m6 k6 (a1 + a3) ∧ RatAt X1 n7 o7 l7 c7 p7 m7 k7 (a2 + a4) ∧ Below W.heap.size W X1) := ⟨hbA, h1, h2, bnext hb3h.out hbX⟩
        clear hb3h
        have hlt6 := hbA.lt
        clear hbA h1 h2 hbX
        have zb := hP.later HX1.out.2.2.2 (by omega); have z0 := zb.1 0 _ rfl; have z1 := zb.1 1 _ rfl; have z2 := zb.1 2 _ rfl; have z3 := zb.1 3 _ rfl; have z4 := zb.1 4 _ rfl; have z5 := zb.1 5 _ rfl; have z6 := zb.1 6 _ rfl; have z7 := zb.1 7 _ rfl; have z8 := zb.1 8 _ rfl; have z9 := zb.1 9 _ rfl; have z10 := zb.1 10 _ rfl; have z11 := zb.1 11 _ rfl; have z12 := zb.1 12 _ rfl; have z13 := zb.1 13 _ rfl; have z14 := zb.1 14 _ rfl; have z15 := zb.1 15 _ rfl; clear zb
        go_upto_region 10 with fail
        go_cut [8, 9] (fun sA sB wx => ∃ rA n8 o8 l8 c8 p8 m8 k8 n9 o9 l9 c9 p9 m9 k9, sA = .pointer (some ⟨rA, 0, none⟩) ∧ sB = .int .i64 0 ∧ Bx wx rA [.bool n8, .slice o8 l8 c8, .slice p8 m8 k8, .bool n9, .slice o9 l9 c9, .slice p9 m9 k9] ∧ RatAt wx n8 o8 l8 c8 p8 m8 k8 (loK (prods a1 a2 a3 a4) 4) ∧ RatAt wx n9 o9 l9 c9 p9 m9 k9 (hiK (prods a1 a2 a3 a4) 4) ∧ Below X1.heap.size X1 wx)
        case first => as_aux_lemma =>
         go_wp2_with (go_at_call 19; refine (smul_any n1 n2 n3 n4 o1 p1 o2 p2 o3 p3 o4 p4 l1 c1 m1 k1 l2 c2 m2 k2 l3 c3 m3 k3 l4 c4 m4 k4 a1 a2 a3 a4 _ (HR.out.1.1.later HX1.out.2.2.2) (HR.out.1.2.later HX1.out.2.2.2) (HR.out.2.1.later HX1.out.2.2.2) (HR.out.2.2.later HX1.out.2.2.2) (HZ.out.1.1.mono (by decide)) (HZ.out.1.2.mono (by decide)) (HZ.out.2.1.mono (by decide)) (HZ.out.2.2.mono (by decide)) HLE.out.1 HLE.out.2 (tab_later HTW.out HX1.out.2.2.2)).mono ?_; rintro e y ⟨n8, o8, l8, c8, p8, m8, k8, n9, o9, l9, c9, p9, m9, k9, rfl, hn⟩; have HN : Hid (RatAt y n8 o8 l8 c8 p8 m8 k8 (loK (prods a1 a2 a3 a4) 4) ∧ RatAt y n9 o9 l9 c9 p9 m9 k9 (hiK (prods a1 a2 a3 a4) 4) ∧ Below X1.heap.size X1 y) := ⟨hn.lo, hn.hi, hn.2.2.2⟩; clear hn)
         go_meet
         exact ⟨_, n8, o8, l8, c8, p8, m8, k8, n9, o9, l9, c9, p9, m9, k9, rfl, rfl, Bx.new _ _ _, HN.out.1.later ((Below.refl _ _).alloc (Nat.le_refl _) _), HN.out.2.1.later ((Below.refl _ _).alloc (Nat.le_refl _) _), below_alloc HN.out.2.2 (Nat.le_refl _)⟩
        case rest =>
         clear z0 z1 z2 z3 z4 z5 z6 z7 z8 z9 z10 z11 z12 z13 z14 z15
         obtain ⟨r8, n8, o8, l8, c8, p8, m8, k8, n9, o9, l9, c9, p9, m9, k9, rfl, rfl, hbA, h1, h2, hbX⟩ := hcut
         obtain ⟨X2, hX⟩ : ∃ X, X = wc := ⟨_, rfl⟩
         rw [← hX] at hbA h1 h2 hbX
         rw [← hX]
         clear hX
         have HX2 : Hid (Bx X2 r6 [.bool n6, .slice o6 l6 c6, .slice p6 m6 k6, .bool n7, .slice o7 l7 c7, .slice p7 m7 k7] ∧ RatAt X2 n6 o6 l6 c6 p6 m6 k6 (a1 + a3) ∧ RatAt X2 n7 o7 l7 c7 p7 m7 k7 (a2 + a4) ∧ Bx X2 r8 [.bool n8, .slice o8 l8 c8, .slice p8 m8 k8, .bool n9, .slice o9 l9 c9, .slice p9 m9 k9] ∧ RatAt X2 n8 o8 l8 c8 p8 m8 k8 (loK (prods a1 a2 a3 a4) 4) ∧ RatAt X2 n9 o9 l9 c9 p9 m9 k9 (hiK (prods a1 a2 a3 a4) 4) ∧ Below W.heap.size W X2) := ⟨HX1.out.1.later hbX HX1.out.1.lt, HX1.out.2.1.later hbX, HX1.out.2.2.1.later hbX, hbA, h1, h2, bnext HX1.out.2.2.2 hbX⟩
         clear HX1
         have hlt8 := hbA.lt
         clear hbA h1 h2 hbX
         have zb := hP.later HX2.out.2.2.2.2.2.2 (by omega); have z0 := zb.1 0 _ rfl; have z1 := zb.1 1 _ rfl; have z2 := zb.1 2 _ rfl; have z3 := zb.1 3 _ rfl; have z4 := zb.1 4 _ rfl; have z5 := zb.1 5 _ rfl; have z6 := zb.1 6 _ rfl; have z7 := zb.1 7 _ rfl; have z8 := zb.1 8 _ rfl; have z9 := zb.1 9 _ rfl; have z10 := zb.1 10 _ rfl; have z11 := zb.1 11 _ rfl; have z12 := zb.1 12 _ rfl; have z13 := zb.1 13 _ rfl; have z14 := zb.1 14 _ rfl; have z15 := zb.1 15 _ rfl; clear zb
         go_upto_region 11 with fail
         go_cut [10, 11] (fun sA sB wx => ∃ rA n10 o10 l10 c10 p10 m10 k10 n11 o11 l11 c11 p11 m11 k11, sA = .pointer (some ⟨rA, 0, none⟩) ∧ sB = .int .i64 0 ∧ Bx wx rA [.bool n10, .slice o10 l10 c10, .slice p10 m10 k10, .bool n11, .slice o11 l11 c11, .slice p11 m11 k11] ∧ RatAt wx n10 o10 l10 c10 p10 m10 k10 (pwLo a1 a2 nn) ∧ RatAt wx n11 o11 l11 c11 p11 m11 k11 (pwHi a1 a2 nn) ∧ Below X2.heap.size X2 wx)
         case first => as_aux_lemma =>
          go_wp2_with (go_at_call 21; refine (spow_any n1 n2 o1 p1 o2 p2 l1 c1 m1 k1 l2 c2 m2 k2 nn a1 a2 _ (HR.out.1.1.later HX2.out.2.2.2.2.2.2) (HR.out.1.2.later HX2.out.2.2.2.2.2.2) (HZ.out.1.1.mono (by decide)) (HZ.out.1.2.mono (by decide)) HLE.out.1 (by omega) (tab_later HTW.out HX2.out.2.2.2.2.2.2)).mono ?_; rintro e y ⟨n10, o10, l10, c10, p10, m10, k10, n11, o11, l11, c11, p11, m11, k11, rfl, h1, h2, h3⟩; have HN : Hid (RatAt y n10 o10 l10 c10 p10 m10 k10 (pwLo a1 a2 nn) ∧ RatAt y n11 o11 l11 c11 p11 m11 k11 (pwHi a1 a2 nn) ∧ Below X2.heap.size X2 y) := ⟨h1, h2, h3⟩; clear h1 h2 h3)
          go_meet
          exact ⟨_, n10, o10, l10, c10, p10, m10, k10, n11, o11, l11, c11, p11, m11, k11, rfl, rfl, Bx.new _ _ _, HN.out.1.later ((Below.refl _ _).alloc (Nat.le_refl _) _), HN.out.2.1.later ((Below.refl _ _).alloc (Nat.le_refl _) _), below_alloc HN.out.2.2 (Nat.le_refl _)⟩
         case rest =>
          clear z0 z1 z2 z3 z4 z5 z6 z7 z8 z9 z10 z11 z12 z13 z14 z15
          obtain ⟨r10, n10, o10, l10, c10, p10, m10, k10, n11, o11, l11, c11, p11, m11, k11, rfl, rfl, hbA, h1, h2, hbX⟩ := hcut
          obtain ⟨X3, hX⟩ : ∃ X, X = wc := ⟨_, rfl⟩
          rw [← hX] at hbA h1 h2 hbX
          rw [← hX]
          clear hX
          have HX3 : Hid (Bx X3 r6 [.bool n6, .slice o6 l6 c6, .slice p6 m6 k6, .bool n7, .slice o7 l7 c7, .slice p7 m7 k7] ∧ RatAt X3 n6 o6 l6 c6 p6 m6 k6 (a1 + a3) ∧ RatAt X3 n7 o7 l7 c7 p7 m7 k7 (a2 + a4) ∧ Bx X3 r8 [.bool n8, .slice o8 l8 c8, .slice p8 m8 k8, .bool n9, .slice o9 l9 c9, .slice p9 m9 k9] ∧ RatAt X3 n8 o8 l8 c8 p8 m8 k8 (loK (prods a1 a2 a3 a4) 4) ∧ RatAt X3 n9 o9 l9 c9 p9 m9 k9 (hiK (prods a1 a2 a3 a4) 4) ∧ Bx X3 r10 [.bool n10, .slice o10 l10 c10, .slice p10 m10 k10, .bool n11, .slice o11 l11 c11, .slice p11 m11 k11] ∧ RatAt X3 n10 o10 l10 c10 p10 m10 k10 (pwLo a1 a2 nn) ∧ RatAt X3 n11 o11 l11 c11 p11 m11 k11 (pwHi a1 a2 nn) ∧ Below W.heap.size W X3) := ⟨HX2.out.1.later hbX HX2.out.1.lt, HX2.out.2.1.later hbX, HX2.out.2.2.1.later hbX, HX2.out.2.2.2.1.later hbX HX2.out.2.2.2.1.lt, HX2.out.2.2.2.2.1.later hbX, HX2.out.2.2.2.2.2.1.later hbX, hbA, h1, h2, bnext HX2.out.2.2.2.2.2.2 hbX⟩
          clear HX2
          have hlt10 := hbA.lt
          clear hbA h1 h2 hbX
          go_upto_region 14 with (go_at_call 14; refine (num3_any 0 _).mono ?_; rintro e xn ⟨rfl, hxn⟩; replace hxn := hxn.symm; subst hxn)
          have KL14 : Hid (∀ w' : World, Below X3.heap.size X3 w' → w'.cell? ⟨rP, 0, none⟩ = some (.bool n1) ∧ w'.cell? ⟨rP, 1, none⟩ = some (.slice o1 l1 c1) ∧ w'.cell? ⟨rP, 2, none⟩ = some (.slice p1 m1 k1) ∧ w'.cell? ⟨rP, 3, none⟩ = some (.bool n2) ∧ w'.cell? ⟨rP, 4, none⟩ = some (.slice o2 l2 c2) ∧ w'.cell? ⟨rP, 5, none⟩ = some (.slice p2 m2 k2)) := fun w' h => (by have zb := hP.later (bnext HX3.out.2.2.2.2.2.2.2.2.2 h) (by omega); exact ⟨zb.1 0 _ rfl, zb.1 1 _ rfl, zb.1 2 _ rfl, zb.1 3 _ rfl, zb.1 4 _ rfl, zb.1 5 _ rfl⟩)
          go_cut [12] (fun sA wx => ∃ gA n12 o12 l12 c12 p12 m12 k12, sA = .slice (some ⟨gA, 0, none⟩) 3 3 ∧ Bx wx gA [.bool n1, .slice o1 l1 c1, .slice p1 m1 k1, .bool n12, .slice o12 l12 c12, .slice p12 m12 k12, .bool n2, .slice o2 l2 c2, .slice p2 m2 k2] ∧ RatAt wx n12 o12 l12 c12 p12 m12 k12 ((a1 + a2) * half2) ∧ Below X3.heap.size X3 wx)
          case first =>
           refine wp_region_noPanic ?_
           refine wp_region_held_drew (S := fun w' => (w'.cell? ⟨rP, 0, none⟩ = some (.bool n1) ∧ w'.cell? ⟨rP, 1, none⟩ = some (.slice o1 l1 c1) ∧ w'.cell? ⟨rP, 2, none⟩ = some (.slice p1 m1 k1) ∧ w'.cell? ⟨rP, 3, none⟩ = some (.bool n2) ∧ w'.cell? ⟨rP, 4, none⟩ = some (.slice o2 l2 c2) ∧ w'.cell? ⟨rP, 5, none⟩ = some (.slice p2 m2 k2))) (by kernel_rfl) (by (try dsimp only); exact KL14.out _ (Below.refl _ _).drew) (fun hHeld => ?_)
           refine wpAnyH_take (i := 0) (oi := Oper.mk (some 88) _ _ _ _ _) (v := ?_) rfl (by decide +kernel) (by decide +kernel) (by decide +kernel) (fun _ _ _ h => h) (Or.inl ⟨by rfl, ?_⟩) (by assumption) ?_
           rotate_left
           ·
            (intro w hSw; (try dsimp only at hSw); go_simp <;> (try with_reducible rfl))
           (try simp only [Act.put, List.setIfInBounds_toArray, List.set_cons_zero, List.set_cons_succ])
           refine wpAnyH_take (i := 1) (oi := Oper.mk (some 89) _ _ _ _ _) (v := ?_) rfl (by decide +kernel) (by decide +kernel) (by decide +kernel) (fun _ _ _ h => h) (Or.inl ⟨by rfl, ?_⟩) (by assumption) ?_
           rotate_left
           ·
            (intro w hSw; (try dsimp only at hSw); go_simp <;> (try with_reducible rfl))
           (try simp only [Act.put, List.setIfInBounds_toArray, List.set_cons_zero, List.set_cons_succ])
           refine wpAnyH_take (i := 2) (oi := Oper.mk (some 90) _ _ _ _ _) (v := ?_) rfl (by decide +kernel) (by decide +kernel) (by decide +kernel) (fun _ _ _ h => h) (Or.inl ⟨by rfl, ?_⟩) (by assumption) ?_
           rotate_left
           ·
            (intro w hSw; (try dsimp only at hSw); go_simp <;> (try with_reducible rfl))
           (try simp only [Act.put, List.setIfInBounds_toArray, List.set_cons_zero, List.set_cons_succ])
           refine wpAnyH_take (i := 3) (oi := Oper.mk (some 91) _ _ _ _ _) (v := ?_) rfl (by decide +kernel) (by decide +kernel) (by decide +kernel) (fun _ _ _ h => h) (Or.inl ⟨by rfl, ?_⟩) (by assumption) ?_
           rotate_left
           ·
            (intro w hSw; (try dsimp only at hSw); go_simp <;> (try with_reducible rfl))
           (try simp only [Act.put, List.setIfInBounds_toArray, List.set_cons_zero, List.set_cons_succ])
           refine wpAnyH_take (i := 4) (oi := Oper.mk (some 92) _ _ _ _ _) (v := ?_) rfl (by decide +kernel) (by decide +kernel) (by decide +kernel) (fun _ _ _ h => h) (Or.inl ⟨by rfl, ?_⟩) (by assumption) ?_
           rotate_left
           ·
            (intro w hSw; (try dsimp only at hSw); go_simp <;> (try with_reducible rfl))
           (try simp only [Act.put, List.setIfInBounds_toArray, List.set_cons_zero, List.set_cons_succ])
           refine wpAnyH_take (i := 5) (oi := Oper.mk (some 93) _ _ _ _ _) (v := ?_) rfl (by decide +kernel) (by decide +kernel) (by decide +kernel) (fun _ _ _ h => h) (Or.inl ⟨by rfl, ?_⟩) (by assumption) ?_
           rotate_left
           ·
            (intro w hSw; (try dsimp only at hSw); go_simp <;> (try with_reducible rfl))
           (try simp only [Act.put, List.setIfInBounds_toArray, List.set_cons_zero, List.set_cons_succ])
           refine wpAnyH_take (i := 6) (oi := Oper.mk (some 94) _ _ _ _ _) (v := ?_) rfl (by decide +kernel) (by decide +kernel) (by decide +kernel) (fun _ _ _ h => h) (Or.inl ⟨by rfl, ?_⟩) (by assumption) ?_
           rotate_left
           ·
            (intro w hSw; (try dsimp only at hSw); go_simp <;> (try with_reducible rfl))
           (try simp only [Act.put, List.setIfInBounds_toArray, List.set_cons_zero, List.set_cons_succ])
           refine wpAnyH_take (i := 7) (oi := Oper.mk (some 95) _ _ _ _ _) (v := ?_) rfl (by decide +kernel) (by decide +kernel) (by decide +kernel) (fun _ _ _ h => h) (Or.inl ⟨by rfl, ?_⟩) (by assumption) ?_
           rotate_left
           ·
            (intro w hSw; (try dsimp only at hSw); go_simp <;> (try with_reducible rfl))
           (try simp only [Act.put, List.setIfInBounds_toArray, List.set_cons_zero, List.set_cons_succ])
           refine wpAnyH_take (i := 8) (oi := Oper.mk (some 96) _ _ _ _ _) (v := ?_) rfl (by decide +kernel) (by decide +kernel) (by decide +kernel) (fun _ _ _ h => h) (Or.inl ⟨by rfl, ?_⟩) (by assumption) ?_
           rotate_left
           ·
            (intro w hSw; (try dsimp only at hSw); go_simp <;> (try with_reducible rfl))
           (try simp only [Act.put, List.setIfInBounds_toArray, List.set_cons_zero, List.set_cons_succ])
           refine wpAnyH_take (i := 10) (oi := Oper.mk (some 98) _ _ _ _ _) (v := ?_) rfl (by decide +kernel) (by decide +kernel) (by decide +kernel) (fun _ _ _ h => h) (Or.inl ⟨by rfl, ?_⟩) (by assumption) ?_
           rotate_left
           ·
            (intro w hSw; (try dsimp only at hSw); go_simp <;> (try with_reducible rfl))
           (try simp only [Act.put, List.setIfInBounds_toArray, List.set_cons_zero, List.set_cons_succ])
           refine wpAnyH_take (i := 11) (oi := Oper.mk (some 99) _ _ _ _ _) (v := ?_) rfl (by decide +kernel) (by decide +kernel) (by decide +kernel) (fun _ _ _ h => h) (Or.inl ⟨by rfl, ?_⟩) (by assumption) ?_
           rotate_left
           ·
            (intro w hSw; (try dsimp only at hSw); go_simp <;> (try with_reducible rfl))
           (try simp only [Act.put, List.setIfInBounds_toArray, List.set_cons_zero, List.set_cons_succ])
           refine wpAnyH_take (i := 12) (oi := Oper.mk (some 100) _ _ _ _ _) (v := ?_) rfl (by decide +kernel) (by decide +kernel) (by decide +kernel) (fun _ _ _ h => h) (Or.inl ⟨by rfl, ?_⟩) (by assumption) ?_
           rotate_left
           ·
            (intro w hSw; (try dsimp only at hSw); go_simp <;> (try with_reducible rfl))
           (try simp only [Act.put, List.setIfInBounds_toArray, List.set_cons_zero, List.set_cons_succ])
           refine wpAnyH_ready (rs := [9]) (by decide +kernel) (by simp) ?_
           refine AllReadyH.cons (o := Oper.mk (some 97) _ _ _ _ _) rfl (fun K hK => ?_) AllReadyH.nil
           go_simp
           (go_at_call 12; refine (qmid_any n1 n2 o1 p1 o2 p2 l1 c1 m1 k1 l2 c2 m2 k2 a1 a2 _ (HR.out.1.1.later (bnext HX3.out.2.2.2.2.2.2.2.2.2 (Below.refl _ _).drew)) (HR.out.1.2.later (bnext HX3.out.2.2.2.2.2.2.2.2.2 (Below.refl _ _).drew)) (HZ.out.1.1.mono (by decide)) (HZ.out.1.2.mono (by decide))).mono ?_; rintro e f1 ⟨n12, o12, l12, c12, p12, m12, k12, rfl, hr, hb⟩; have H12 : Hid (RatAt f1 n12 o12 l12 c12 p12 m12 k12 ((a1 + a2) * half2)) := hr; clear hr; have hbF1 : Below X3.heap.size X3 f1 := bnext (Below.refl _ _).drew hb; clear hb)
           (try go_wp2_with fail)
           clear hHeld
           refine hK.out _ _ (by (try dsimp only); first | exact KL14.out _ (Below.refl _ _).drew | exact KL14.out _ (by assumption)) (fun hHeld => ?_)
           clear hK K
           (try simp only [Act.put, List.setIfInBounds_toArray, List.set_cons_zero, List.set_cons_succ])
           have hbs := three_build n1 n12 n2 o1 p1 o12 p12 o2 p2 l1 c1 m1 k1 l12 c12 m12 k12 l2 c2 m2 k2
           refine wpAnyH_ready (rs := [13]) (by decide +kernel) (by simp) ?_
           refine AllReadyH.cons (o := Oper.mk (some 101) _ _ _ _ _) rfl (fun K hK => ?_) AllReadyH.nil
           go_simp
           clear hHeld
           refine hK.out _ _ (by (try dsimp only); exact KL14.out _ (below_alloc hbF1 (Nat.le_refl _))) (fun hHeld => ?_)
           clear hK K
           (try simp only [Act.put, List.setIfInBounds_toArray, List.set_cons_zero, List.set_cons_succ])
           refine wpAnyH_take (i := 14) (oi := Oper.mk (some 12) _ _ _ _ _) (v := ?_) rfl (by decide +kernel) (by decide +kernel) (by decide +kernel) (fun _ _ _ h => h) (Or.inl ⟨by rfl, ?_⟩) (by assumption) ?_
           rotate_left
           ·
            (intro w hSw; (try dsimp only at hSw); go_simp <;> (try with_reducible rfl))
           (try simp only [Act.put, List.setIfInBounds_toArray, List.set_cons_zero, List.set_cons_succ])
           refine wpAnyH_done (by decide +kernel) ?_ _
           refine NoPanic.normal ?_
           go_wp2
           go_meet
           exact ⟨_, n12, o12, l12, c12, p12, m12, k12, rfl, Bx.new _ _ _, H12.out.later ((Below.refl _ _).alloc (Nat.le_refl _) _), below_alloc hbF1 (Nat.le_refl _)⟩
          case rest =>
           obtain ⟨g1, n12, o12, l12, c12, p12, m12, k12, rfl, hbA, h1, hbX⟩ := hcut
           obtain ⟨X4, hX⟩ : ∃ X, X = wc := ⟨_, rfl⟩
           rw [← hX] at hbA h1 hbX
           rw [← hX]
           clear hX
           have HX4 : Hid (Bx X4 r6 [.bool n6, .slice o6 l6 c6, .slice p6 m6 k6, .bool n7, .slice o7 l7 c7, .slice p7 m7 k7] ∧ RatAt X4 n6 o6 l6 c6 p6 m6 k6 (a1 + a3) ∧ RatAt X4 n7 o7 l7 c7 p7 m7 k7 (a2 + a4) ∧ Bx X4 r8 [.bool n8, .slice o8 l8 c8, .slice p8 m8 k8, .bool n9, .slice o9 l9 c9, .slice p9 m9 k9] ∧ RatAt X4 n8 o8 l8 c8 p8 m8 k8 (loK (prods a1 a2 a3 a4) 4) ∧ RatAt X4 n9 o9 l9 c9 p9 m9 k9 (hiK (prods a1 a2 a3 a4) 4) ∧ Bx X4 r10 [.bool n10, .slice o10 l10 c10, .slice p10 m10 k10, .bool n11, .slice o11 l11 c11, .slice p11 m11 k11] ∧ RatAt X4 n10 o10 l10 c10 p10 m10 k10 (pwLo a1 a2 nn) ∧ RatAt X4 n11 o11 l11 c11 p11 m11 k11 (pwHi a1 a2 nn) ∧ Bx X4 g1 [.bool n1, .slice o1 l1 c1, .slice p1 m1 k1, .bool n12, .slice o12 l12 c12, .slice p12 m12 k12, .bool n2, .slice o2 l2 c2, .slice p2 m2 k2] ∧ RatAt X4 n12 o12 l12 c12 p12 m12 k12 ((a1 + a2) * half2) ∧ Below W.heap.size W X4) := ⟨HX3.out.1.later hbX HX3.out.1.lt, HX3.out.2.1.later hbX, HX3.out.2.2.1.later hbX, HX3.out.2.2.2.1.later hbX HX3.out.2.2.2.1.lt, HX3.out.2.2.2.2.1.later hbX, HX3.out.2.2.2.2.2.1.later hbX, HX3.out.2.2.2.2.2.2.1.later hbX HX3.out.2.2.2.2.2.2.1.lt, HX3.out.2.2.2.2.2.2.2.1.later hbX, HX3.out.2.2.2.2.2.2.2.2.1.later hbX, hbA, h1, bnext HX3.out.2.2.2.2.2.2.2.2.2 hbX⟩
           clear HX3
           clear hbA h1 hbX KL14
           go_upto_region 15 with fail
           have KL15 : Hid (∀ w' : World, Below X4.heap.size X4 w' → w'.cell? ⟨rP, 6, none⟩ = some (.bool n3) ∧ w'.cell? ⟨rP, 7, none⟩ = some (.slice o3 l3 c3) ∧ w'.cell? ⟨rP, 8, none⟩ = some (.slice p3 m3 k3) ∧ w'.cell? ⟨rP, 9, none⟩ = some (.bool n4) ∧ w'.cell? ⟨rP, 10, none⟩ = some (.slice o4 l4 c4) ∧ w'.cell? ⟨rP, 11, none⟩ = some (.slice p4 m4 k4)) := fun w' h => (by have zb := hP.later (bnext HX4.out.2.2.2.2.2.2.2.2.2.2.2 h) (by omega); exact ⟨zb.1 6 _ rfl, zb.1 7 _ rfl, zb.1 8 _ rfl, zb.1 9 _ rfl, zb.1 10 _ rfl, zb.1 11 _ rfl⟩)
           go_cut [13] (fun sA wx => ∃ gA n13 o13 l13 c13 p13 m13 k13, sA = .slice (some ⟨gA, 0, none⟩) 3 3 ∧ Bx wx gA [.bool n3, .slice o3 l3 c3, .slice p3 m3 k3, .bool n13, .slice o13 l13 c13, .slice p13 m13 k13, .bool n4, .slice o4 l4 c4, .slice p4 m4 k4] ∧ RatAt wx n13 o13 l13 c13 p13 m13 k13 ((a3 + a4) * half2) ∧ Below X4.heap.size X4 wx)
           case first =>
            refine wp_region_noPanic ?_
            refine wp_region_held_drew (S := fun w' => (w'.cell? ⟨rP, 6, none⟩ = some (.bool n3) ∧ w'.cell? ⟨rP, 7, none⟩ = some (.slice o3 l3 c3) ∧ w'.cell? ⟨rP, 8, none⟩ = some (.slice p3 m3 k3) ∧ w'.cell? ⟨rP, 9, none⟩ = some (.bool n4) ∧ w'.cell? ⟨rP, 10, none⟩ = some (.slice o4 l4 c4) ∧ w'.cell? ⟨rP, 11, none⟩ = some (.slice p4 m4 k4))) (by kernel_rfl) (by (try dsimp only); exact KL15.out _ (Below.refl _ _).drew) (fun hHeld => ?_)
            refine wpAnyH_take (i := 0) (oi := Oper.mk (some 102) _ _ _ _ _) (v := ?_) rfl (by decide +kernel) (by decide +kernel) (by decide +kernel) (fun _ _ _ h => h) (Or.inl ⟨by rfl, ?_⟩) (by assumption) ?_
            rotate_left
            ·
             (intro w hSw; (try dsimp only at hSw); go_simp <;> (try with_reducible rfl))
            (try simp only [Act.put, List.setIfInBounds_toArray, List.set_cons_zero, List.set_cons_succ])
            refine wpAnyH_take (i := 1) (oi := Oper.mk (some 103) _ _ _ _ _) (v := ?_) rfl (by decide +kernel) (by decide +kernel) (by decide +kernel) (fun _ _ _ h => h) (Or.inl ⟨by rfl, ?_⟩) (by assumption) ?_
            rotate_left
            ·
             (intro w hSw; (try dsimp only at hSw); go_simp <;> (try with_reducible rfl))
            (try simp only [Act.put, List.setIfInBounds_toArray, List.set_cons_zero, List.set_cons_succ])
            refine wpAnyH_take (i := 2) (oi := Oper.mk (some 104) _ _ _ _ _) (v := ?_) rfl (by decide +kernel) (by decide +kernel) (by decide +kernel) (fun _ _ _ h => h) (Or.inl ⟨by rfl, ?_⟩) (by assumption) ?_
            rotate_left
            ·
             (intro w hSw; (try dsimp only at hSw); go_simp <;> (try with_reducible rfl))
            (try simp only [Act.put, List.setIfInBounds_toArray, List.set_cons_zero, List.set_cons_succ])
            refine wpAnyH_take (i := 3) (oi := Oper.mk (some 105) _ _ _ _ _) (v := ?_) rfl (by decide +kernel) (by decide +kernel) (by decide +kernel) (fun _ _ _ h => h) (Or.inl ⟨by rfl, ?_⟩) (by assumption) ?_
            rotate_left
            ·
             (intro w hSw; (try dsimp only at hSw); go_simp <;> (try with_reducible rfl))
            (try simp only [Act.put, List.setIfInBounds_toArray, List.set_cons_zero, List.set_cons_succ])
            refine wpAnyH_take (i := 4) (oi := Oper.mk (some 106) _ _ _ _ _) (v := ?_) rfl (by decide +kernel) (by decide +kernel) (by decide +kernel) (fun _ _ _ h => h) (Or.inl ⟨by rfl, ?_⟩) (by assumption) ?_
            rotate_left
            ·
             (intro w hSw; (try dsimp only at hSw); go_simp <;> (try with_reducible rfl))
            (try simp only [Act.put, List.setIfInBounds_toArray, List.set_cons_zero, List.set_cons_succ])
            refine wpAnyH_take (i := 5) (oi := Oper.mk (some 107) _ _ _ _ _) (v := ?_) rfl (by decide +kernel) (by decide +kernel) (by decide +kernel) (fun _ _ _ h => h) (Or.inl ⟨by rfl, ?_⟩) (by assumption) ?_
            rotate_left
            ·
             (intro w hSw; (try dsimp only at hSw); go_simp <;> (try with_reducible rfl))
            (try simp only [Act.put, List.setIfInBounds_toArray, List.set_cons_zero, List.set_cons_succ])
            refine wpAnyH_take (i := 6) (oi := Oper.mk (some 108) _ _ _ _ _) (v := ?_) rfl (by decide +kernel) (by decide +kernel) (by decide +kernel) (fun _ _ _ h => h) (Or.inl ⟨by rfl, ?_⟩) (by assumption) ?_
            rotate_left
            ·
             (intro w hSw; (try dsimp only at hSw); go_simp <;> (try with_reducible rfl))
            (try simp only [Act.put, List.setIfInBounds_toArray, List.set_cons_zero, List.set_cons_succ])
            refine wpAnyH_take (i := 7) (oi := Oper.mk (some 109) _ _ _ _ _) (v := ?_) rfl (by decide +kernel) (by decide +kernel) (by decide +kernel) (fun _ _ _ h => h) (Or.inl ⟨by rfl, ?_⟩) (by assumption) ?_
            rotate_left
            ·
             (intro w hSw; (try dsimp only at hSw); go_simp <;> (try with_reducible rfl))
            (try simp only [Act.put, List.setIfInBounds_toArray, List.set_cons_zero, List.set_cons_succ])
            refine wpAnyH_take (i := 8) (oi := Oper.mk (some 110) _ _ _ _ _) (v := ?_) rfl (by decide +kernel) (by decide +kernel) (by decide +kernel) (fun _ _ _ h => h) (Or.inl ⟨by rfl, ?_⟩) (by assumption) ?_
            rotate_left
            ·
             (intro w hSw; (try dsimp only at hSw); go_simp <;> (try with_reducible rfl))
            (try simp only [Act.put, List.setIfInBounds_toArray, List.set_cons_zero, List.set_cons_succ])
            refine wpAnyH_take (i := 10) (oi := Oper.mk (some 112) _ _ _ _ _) (v := ?_) rfl (by decide +kernel) (by decide +kernel) (by decide +kernel) (fun _ _ _ h => h) (Or.inl ⟨by rfl, ?_⟩) (by assumption) ?_
            rotate_left
            ·
             (intro w hSw; (try dsimp only at hSw); go_simp <;> (try with_reducible rfl))
            (try simp only [Act.put, List.setIfInBounds_toArray, List.set_cons_zero, List.set_cons_succ])
            refine wpAnyH_take (i := 11) (oi := Oper.mk (some 113) _ _ _ _ _) (v := ?_) rfl (by decide +kernel) (by decide +kernel) (by decide +kernel) (fun _ _ _ h => h) (Or.inl ⟨by rfl, ?_⟩) (by assumption) ?_
            rotate_left
            ·
             (intro w hSw; (try dsimp only at hSw); go_simp <;> (try with_reducible rfl))
            (try simp only [Act.put, List.setIfInBounds_toArray, List.set_cons_zero, List.set_cons_succ])
            refine wpAnyH_take (i := 12) (oi := Oper.mk (some 114) _ _ _ _ _) (v := ?_) rfl (by decide +kernel) (by decide +kernel) (by decide +kernel) (fun _ _ _ h => h) (Or.inl ⟨by rfl, ?_⟩) (by assumption) ?_
            rotate_left
            ·
             (intro w hSw; (try dsimp only at hSw); go_simp <;> (try with_reducible rfl))
            (try simp only [Act.put, List.setIfInBounds_toArray, List.set_cons_zero, List.set_cons_succ])
            refine wpAnyH_ready (rs := [9]) (by decide +kernel) (by simp) ?_
            refine AllReadyH.cons (o := Oper.mk (some 111) _ _ _ _ _) rfl (fun K hK => ?_) AllReadyH.nil
            go_simp
            (go_at_call 12; refine (qmid_any n3 n4 o3 p3 o4 p4 l3 c3 m3 k3 l4 c4 m4 k4 a3 a4 _ (HR.out.2.1.later (bnext HX4.out.2.2.2.2.2.2.2.2.2.2.2 (Below.refl _ _).drew)) (HR.out.2.2.later (bnext HX4.out.2.2.2.2.2.2.2.2.2.2.2 (Below.refl _ _).drew)) (HZ.out.2.1.mono (by decide)) (HZ.out.2.2.mono (by decide))).mono ?_; rintro e f1 ⟨n13, o13, l13, c13, p13, m13, k13, rfl, hr, hb⟩; have H12 : Hid (RatAt f1 n13 o13 l13 c13 p13 m13 k13 ((a3 + a4) * half2)) := hr; clear hr; have hbF1 : Below X4.heap.size X4 f1 := bnext (Below.refl _ _).drew hb; clear hb)
            (try go_wp2_with fail)
            clear hHeld
            refine hK.out _ _ (by (try dsimp only); first | exact KL15.out _ (Below.refl _ _).drew | exact KL15.out _ (by assumption)) (fun hHeld => ?_)
            clear hK K
            (try simp only [Act.put, List.setIfInBounds_toArray, List.set_cons_zero, List.set_cons_succ])
            have hbs := three_build n3 n13 n4 o3 p3 o13 p13 o4 p4 l3 c3 m3 k3 l13 c13 m13 k13 l4 c4 m4 k4
            refine wpAnyH_ready (rs := [13]) (by decide +kernel) (by simp) ?_
            refine AllReadyH.cons (o := Oper.mk (some 115) _ _ _ _ _) rfl (fun K hK => ?_) AllReadyH.nil
            go_simp
            clear hHeld
            refine hK.out _ _ (by (try dsimp only); exact KL15.out _ (below_alloc hbF1 (Nat.le_refl _))) (fun hHeld => ?_)
            clear hK K
            (try simp only [Act.put, List.setIfInBounds_toArray, List.set_cons_zero, List.set_cons_succ])
            refine wpAnyH_take (i := 14) (oi := Oper.mk (some 13) _ _ _ _ _) (v := ?_) rfl (by decide +kernel) (by decide +kernel) (by decide +kernel) (fun _ _ _ h => h) (Or.inl ⟨by rfl, ?_⟩) (by assumption) ?_
            rotate_left
            ·
             (intro w hSw; (try dsimp only at hSw); go_simp <;> (try with_reducible rfl))
            (try simp only [Act.put, List.setIfInBounds_toArray, List.set_cons_zero, List.set_cons_succ])
            refine wpAnyH_done (by decide +kernel) ?_ _
            refine NoPanic.normal ?_
            go_wp2
            go_meet
            exact ⟨_, n13, o13, l13, c13, p13, m13, k13, rfl, Bx.new _ _ _, H12.out.later ((Below.refl _ _).alloc (Nat.le_refl _) _), below_alloc hbF1 (Nat.le_refl _)⟩
           case rest =>
            obtain ⟨g2, n13, o13, l13, c13, p13, m13, k13, rfl, hbA, h1, hbX⟩ := hcut
            obtain ⟨X5, hX⟩ : ∃ X, X = wc := ⟨_, rfl⟩
            rw [← hX] at hbA h1 hbX
            rw [← hX]
            clear hX
            have HX5 : Hid (Bx X5 r6 [.bool n6, .slice o6 l6 c6, .slice p6 m6 k6, .bool n7, .slice o7 l7 c7, .slice p7 m7 k7] ∧ RatAt X5 n6 o6 l6 c6 p6 m6 k6 (a1 + a3) ∧ RatAt X5 n7 o7 l7 c7 p7 m7 k7 (a2 + a4) ∧ Bx X5 r8 [.bool n8, .slice o8 l8 c8, .slice p8 m8 k8, .bool n9, .slice o9 l9 c9, .slice p9 m9 k9] ∧ RatAt X5 n8 o8 l8 c8 p8 m8 k8 (loK (prods a1 a2 a3 a4) 4) ∧ RatAt X5 n9 o9 l9 c9 p9 m9 k9 (hiK (prods a1 a2 a3 a4) 4) ∧ Bx X5 r10 [.bool n10, .slice o10 l10 c10, .slice p10 m10 k10, .bool n11, .slice o11 l11 c11, .slice p11 m11 k11] ∧ RatAt X5 n10 o10 l10 c10 p10 m10 k10 (pwLo a1 a2 nn) ∧ RatAt X5 n11 o11 l11 c11 p11 m11 k11 (pwHi a1 a2 nn) ∧ Bx X5 g1 [.bool n1, .slice o1 l1 c1, .slice p1 m1 k1, .bool n12, .slice o12 l12 c12, .slice p12 m12 k12, .bool n2, .slice o2 l2 c2, .slice p2 m2 k2] ∧ RatAt X5 n12 o12 l12 c12 p12 m12 k12 ((a1 + a2) * half2) ∧ Bx X5 g2 [.bool n3, .slice o3 l3 c3, .slice p3 m3 k3, .bool n13, .slice o13 l13 c13, .slice p13 m13 k13, .bool n4, .slice o4 l4 c4, .slice p4 m4 k4] ∧ RatAt X5 n13 o13 l13 c13 p13 m13 k13 ((a3 + a4) * half2) ∧ Below W.heap.size W X5) := ⟨HX4.out.1.later hbX HX4.out.1.lt, HX4.out.2.1.later hbX, HX4.out.2.2.1.later hbX, HX4.out.2.2.2.1.later hbX HX4.out.2.2.2.1.lt, HX4.out.2.2.2.2.1.later hbX, HX4.out.2.2.2.2.2.1.later hbX, HX4.out.2.2.2.2.2.2.1.later hbX HX4.out.2.2.2.2.2.2.1.lt, HX4.out.2.2.2.2.2.2.2.1.later hbX, HX4.out.2.2.2.2.2.2.2.2.1.later hbX, HX4.out.2.2.2.2.2.2.2.2.2.1.later hbX HX4.out.2.2.2.2.2.2.2.2.2.1.lt, HX4.out.2.2.2.2.2.2.2.2.2.2.1.later hbX, hbA, h1, bnext HX4.out.2.2.2.2.2.2.2.2.2.2.2 hbX⟩
            clear HX4
            clear hbA h1 hbX KL15
            go_wp2
            go_loopw [14] (fun j wr => ∃ q : Nat, q ≤ 3 ∧ j = .int .i64 (q : Int) ∧ Below X5.heap.size X5 wr) (fun j _ => 3 - (intOf j).toNat)
            case atStart => exact ⟨0, by omega, rfl, Below.refl _ _⟩
            case round =>
             obtain ⟨q, hq, rfl, hbq⟩ := hrel
             obtain ⟨Y, hY⟩ : ∃ Y, Y = wr := ⟨_, rfl⟩
             rw [← hY] at hbq
             rw [← hY]
             clear hY
             by_cases hq3 : q < 3
             ·
              have hq3' : (q : Int) < 3 := by omega
              obtain ⟨v, n20, o20, l20, c20, p20, m20, k20, hcel, hv13, sv, hvh⟩ : ∃ v n20 o20 l20 c20 p20 m20 k20, (∀ w', Below X5.heap.size X5 w' → w'.cell? ⟨g1, q * 3, none⟩ = some (.bool n20) ∧ w'.cell? ⟨g1, q * 3 + 1, none⟩ = some (.slice o20 l20 c20) ∧ w'.cell? ⟨g1, q * 3 + 2, none⟩ = some (.slice p20 m20 k20)) ∧ RatAt Y n20 o20 l20 c20 p20 m20 k20 v ∧ Sz v 100 ∧ hasQ a1 a2 v = true := by
               have hg := HX5.out.2.2.2.2.2.2.2.2.2.1
               have hBQ : Below W.heap.size W Y := bnext HX5.out.2.2.2.2.2.2.2.2.2.2.2.2.2 hbq
               have hsl := hasQ_self HLE.out.1
               have hmm : hasQ a1 a2 ((a1 + a2) * half2) = true := hasQ_iff.2 (mid_le (cmpQ_le.1 HLE.out.1))
               obtain rfl | rfl | rfl : q = 0 ∨ q = 1 ∨ q = 2 := by omega
               ·
                exact ⟨a1, n1, o1, l1, c1, p1, m1, k1, fun w' h => ⟨(hg.later h hg.lt).1 0 _ rfl, (hg.later h hg.lt).1 1 _ rfl, (hg.later h hg.lt).1 2 _ rfl⟩, HR.out.1.1.later hBQ, HZ.out.1.1.mono (by decide), hsl.1⟩
               ·
                exact ⟨((a1 + a2) * half2), n12, o12, l12, c12, p12, m12, k12, fun w' h => ⟨(hg.later h hg.lt).1 3 _ rfl, (hg.later h hg.lt).1 4 _ rfl, (hg.later h hg.lt).1 5 _ rfl⟩, HX5.out.2.2.2.2.2.2.2.2.2.2.1.later hbq, HMZ.out.1, hmm⟩
               ·
                exact ⟨a2, n2, o2, l2, c2, p2, m2, k2, fun w' h => ⟨(hg.later h hg.lt).1 6 _ rfl, (hg.later h hg.lt).1 7 _ rfl, (hg.later h hg.lt).1 8 _ rfl⟩, HR.out.1.2.later hBQ, HZ.out.1.2.mono (by decide), hsl.2⟩
              have HVq : Hid (RatAt Y n20 o20 l20 c20 p20 m20 k20 v ∧ Sz v 100 ∧ hasQ a1 a2 v = true) := ⟨hv13, sv, hvh⟩
              have HCq : Hid (∀ w', Below X5.heap.size X5 w' → w'.cell? ⟨g1, q * 3, none⟩ = some (.bool n20) ∧ w'.cell? ⟨g1, q * 3 + 1, none⟩ = some (.slice o20 l20 c20) ∧ w'.cell? ⟨g1, q * 3 + 2, none⟩ = some (.slice p20 m20 k20)) := hcel
              clear hcel hv13 sv hvh
              go_wp2
              go_loopw [15] (fun j wr => ∃ t : Nat, t ≤ 3 ∧ j = .int .i64 (t : Int) ∧ Below Y.heap.size Y wr) (fun j _ => 3 - (intOf j).toNat)
              case atStart => exact ⟨0, by omega, rfl, Below.refl _ _⟩
              case round =>
               obtain ⟨t, ht, rfl, hbt⟩ := hrel
               obtain ⟨Z, hY⟩ : ∃ Y, Y = wr := ⟨_, rfl⟩
               rw [← hY] at hbt
               rw [← hY]
               clear hY
               have hbQ : Below X5.heap.size X5 Z := bnext hbq hbt
               by_cases ht3 : t < 3
               ·
                as_aux_lemma =>
                have ht3' : (t : Int) < 3 := by omega
                obtain ⟨u, n21, o21, l21, c21, p21, m21, k21, hcel, hv13, sv, hvh⟩ : ∃ u n21 o21 l21 c21 p21 m21 k21, (∀ w', Below X5.heap.size X5 w' → w'.cell? ⟨g2, t * 3, none⟩ = some (.bool n21) ∧ w'.cell? ⟨g2, t * 3 + 1, none⟩ = some (.slice o21 l21 c21) ∧ w'.cell? ⟨g2, t * 3 + 2, none⟩ = some (.slice p21 m21 k21)) ∧ RatAt Z n21 o21 l21 c21 p21 m21 k21 u ∧ Sz u 100 ∧ hasQ a3 a4 u = true := by
                 have hg := HX5.out.2.2.2.2.2.2.2.2.2.2.2.1
                 have hBQ : Below W.heap.size W Z := bnext HX5.out.2.2.2.2.2.2.2.2.2.2.2.2.2 hbQ
                 have hsl := hasQ_self HLE.out.2
                 have hmm : hasQ a3 a4 ((a3 + a4) * half2) = true := hasQ_iff.2 (mid_le (cmpQ_le.1 HLE.out.2))
                 obtain rfl | rfl | rfl : t = 0 ∨ t = 1 ∨ t = 2 := by omega
                 ·
                  exact ⟨a3, n3, o3, l3, c3, p3, m3, k3, fun w' h => ⟨(hg.later h hg.lt).1 0 _ rfl, (hg.later h hg.lt).1 1 _ rfl, (hg.later h hg.lt).1 2 _ rfl⟩, HR.out.2.1.later hBQ, HZ.out.2.1.mono (by decide), hsl.1⟩
                 ·
                  exact ⟨((a3 + a4) * half2), n13, o13, l13, c13, p13, m13, k13, fun w' h => ⟨(hg.later h hg.lt).1 3 _ rfl, (hg.later h hg.lt).1 4 _ rfl, (hg.later h hg.lt).1 5 _ rfl⟩, HX5.out.2.2.2.2.2.2.2.2.2.2.2.2.1.later hbQ, HMZ.out.2, hmm⟩
                 ·
                  exact ⟨a4, n4, o4, l4, c4, p4, m4, k4, fun w' h => ⟨(hg.later h hg.lt).1 6 _ rfl, (hg.later h hg.lt).1 7 _ rfl, (hg.later h hg.lt).1 8 _ rfl⟩, HR.out.2.2.later hBQ, HZ.out.2.2.mono (by decide), hsl.2⟩
                have HVt : Hid (RatAt Z n21 o21 l21 c21 p21 m21 k21 u ∧ Sz u 100 ∧ hasQ a3 a4 u = true) := ⟨hv13, sv, hvh⟩
                have HCt : Hid (∀ w', Below X5.heap.size X5 w' → w'.cell? ⟨g2, t * 3, none⟩ = some (.bool n21) ∧ w'.cell? ⟨g2, t * 3 + 1, none⟩ = some (.slice o21 l21 c21) ∧ w'.cell? ⟨g2, t * 3 + 2, none⟩ = some (.slice p21 m21 k21)) := hcel
                clear hcel hv13 sv hvh
                go_upto_region 22 with fail
                have hV' : Hid (RatAt Z n20 o20 l20 c20 p20 m20 k20 v) := HVq.out.1.later hbt
                have K22 : Hid (∀ w' : World, Below Z.heap.size Z w' → w'.cell? ⟨r6, 0, none⟩ = some (.bool n6) ∧ w'.cell? ⟨r6, 1, none⟩ = some (.slice o6 l6 c6) ∧ w'.cell? ⟨r6, 2, none⟩ = some (.slice p6 m6 k6) ∧ w'.cell? ⟨r6, 3, none⟩ = some (.bool n7) ∧ w'.cell? ⟨r6, 4, none⟩ = some (.slice o7 l7 c7) ∧ w'.cell? ⟨r6, 5, none⟩ = some (.slice p7 m7 k7) ∧ w'.cell? ⟨r8, 0, none⟩ = some (.bool n8) ∧ w'.cell? ⟨r8, 1, none⟩ = some (.slice o8 l8 c8) ∧ w'.cell? ⟨r8, 2, none⟩ = some (.slice p8 m8 k8) ∧ w'.cell? ⟨r8, 3, none⟩ = some (.bool n9) ∧ w'.cell? ⟨r8, 4, none⟩ = some (.slice o9 l9 c9) ∧ w'.cell? ⟨r8, 5, none⟩ = some (.slice p9 m9 k9) ∧ w'.cell? ⟨g1, q * 3, none⟩ = some (.bool n20) ∧ w'.cell? ⟨g1, q * 3 + 1, none⟩ = some (.slice o20 l20 c20) ∧ w'.cell? ⟨g1, q * 3 + 2, none⟩ = some (.slice p20 m20 k20) ∧ w'.cell? ⟨g2, t * 3, none⟩ = some (.bool n21) ∧ w'.cell? ⟨g2, t * 3 + 1, none⟩ = some (.slice o21 l21 c21) ∧ w'.cell? ⟨g2, t * 3 + 2, none⟩ = some (.slice p21 m21 k21)) := fun w' h => (by obtain ⟨e1, e2, e3⟩ := HCq.out w' (bnext hbQ h); obtain ⟨e4, e5, e6⟩ := HCt.out w' (bnext hbQ h); have z6 := HX5.out.1.later (bnext hbQ h) HX5.out.1.lt; have z8 := HX5.out.2.2.2.1.later (bnext hbQ h) HX5.out.2.2.2.1.lt; exact ⟨z6.1 0 _ rfl, z6.1 1 _ rfl, z6.1 2 _ rfl, z6.1 3 _ rfl, z6.1 4 _ rfl, z6.1 5 _ rfl, z8.1 0 _ rfl, z8.1 1 _ rfl, z8.1 2 _ rfl, z8.1 3 _ rfl, z8.1 4 _ rfl, z8.1 5 _ rfl, e1, e2, e3, e4, e5, e6⟩)
                have HSZ : Hid ((Sz (a1 + a3) 1000 ∧ Sz (a2 + a4) 1000 ∧ Sz (v + u) 1000) ∧ (Sz (loK (prods a1 a2 a3 a4) 4) 1000 ∧ Sz (hiK (prods a1 a2 a3 a4) 4) 1000 ∧ Sz (v * u) 1000)) := ⟨⟨(HZ.out.1.1.add HZ.out.2.1).mono (by decide), (HZ.out.1.2.add HZ.out.2.2).mono (by decide), (HVq.out.2.1.add HVt.out.2.1).mono (by decide)⟩, ⟨loK_sz (fun i hi => prods_sz HZ.out.1.1 HZ.out.1.2 HZ.out.2.1 HZ.out.2.2 i hi) 4 (by decide), hiK_sz (fun i hi => prods_sz HZ.out.1.1 HZ.out.1.2 HZ.out.2.1 HZ.out.2.2 i hi) 4 (by decide), (HVq.out.2.1.mul HVt.out.2.1).mono (by decide)⟩⟩
                refine wp_region_noPanic ?_
                refine wp_region_held_drew (S := fun w' => (w'.cell? ⟨r6, 0, none⟩ = some (.bool n6) ∧ w'.cell? ⟨r6, 1, none⟩ = some (.slice o6 l6 c6) ∧ w'.cell? ⟨r6, 2, none⟩ = some (.slice p6 m6 k6) ∧ w'.cell? ⟨r6, 3, none⟩ = some (.bool n7) ∧ w'.cell? ⟨r6, 4, none⟩ = some (.slice o7 l7 c7) ∧ w'.cell? ⟨r6, 5, none⟩ = some (.slice p7 m7 k7) ∧ w'.cell? ⟨r8, 0, none⟩ = some (.bool n8) ∧ w'.cell? ⟨r8, 1, none⟩ = some (.slice o8 l8 c8) ∧ w'.cell? ⟨r8, 2, none⟩ = some (.slice p8 m8 k8) ∧ w'.cell? ⟨r8, 3, none⟩ = some (.bool n9) ∧ w'.cell? ⟨r8, 4, none⟩ = some (.slice o9 l9 c9) ∧ w'.cell? ⟨r8, 5, none⟩ = some (.slice p9 m9 k9) ∧ w'.cell? ⟨g1, q * 3, none⟩ = some (.bool n20) ∧ w'.cell? ⟨g1, q * 3 + 1, none⟩ = some (.slice o20 l20 c20) ∧ w'.cell? ⟨g1, q * 3 + 2, none⟩ = some (.slice p20 m20 k20) ∧ w'.cell? ⟨g2, t * 3, none⟩ = some (.bool n21) ∧ w'.cell? ⟨g2, t * 3 + 1, none⟩ = some (.slice o21 l21 c21) ∧ w'.cell? ⟨g2, t * 3 + 2, none⟩ = some (.slice p21 m21 k21))) (by kernel_rfl) (by (try dsimp only); exact K22.out _ (Below.refl _ _).drew) (fun hHeld => ?_)
                refine wpAnyH_take (i := 0) (oi := Oper.mk (some 124) _ _ _ _ _) (v := ?_) rfl (by decide +kernel) (by decide +kernel) (by decide +kernel) (fun _ _ _ h => h) (Or.inl ⟨by rfl, ?_⟩) (by assumption) ?_
                rotate_left
                ·
                 (intro w hSw; (try dsimp only at hSw); go_simp <;> (try with_reducible rfl))
                (try simp only [Act.put, List.setIfInBounds_toArray, List.set_cons_zero, List.set_cons_succ])
                refine wpAnyH_take (i := 1) (oi := Oper.mk (some 125) _ _ _ _ _) (v := ?_) rfl (by decide +kernel) (by decide +kernel) (by decide +kernel) (fun _ _ _ h => h) (Or.inl ⟨by rfl, ?_⟩) (by assumption) ?_
                rotate_left
                ·
                 (intro w hSw; (try dsimp only at hSw); go_simp <;> (try with_reducible rfl))
                (try simp only [Act.put, List.setIfInBounds_toArray, List.set_cons_zero, List.set_cons_succ])
                refine wpAnyH_take (i := 2) (oi := Oper.mk (some 126) _ _ _ _ _) (v := ?_) rfl (by decide +kernel) (by decide +kernel) (by decide +kernel) (fun _ _ _ h => h) (Or.inl ⟨by rfl, ?_⟩) (by assumption) ?_
                rotate_left
                ·
                 (intro w hSw; (try dsimp only at hSw); go_simp <;> (try with_reducible rfl))
                (try simp only [Act.put, List.setIfInBounds_toArray, List.set_cons_zero, List.set_cons_succ])
                refine wpAnyH_take (i := 3) (oi := Oper.mk (some 127) _ _ _ _ _) (v := ?_) rfl (by decide +kernel) (by decide +kernel) (by decide +kernel) (fun _ _ _ h => h) (Or.inl ⟨by rfl, ?_⟩) (by assumption) ?_
                rotate_left
                ·
                 (intro w hSw; (try dsimp only at hSw); go_simp <;> (try with_reducible rfl))
                (try simp only [Act.put, List.setIfInBounds_toArray, List.set_cons_zero, List.set_cons_succ])
                refine wpAnyH_take (i := 4) (oi := Oper.mk (some 128) _ _ _ _ _) (v := ?_) rfl (by decide +kernel) (by decide +kernel) (by decide +kernel) (fun _ _ _ h => h) (Or.inl ⟨by rfl, ?_⟩) (by assumption) ?_
                rotate_left
                ·
                 (intro w hSw; (try dsimp only at hSw); go_simp <;> (try with_reducible rfl))
                (try simp only [Act.put, List.setIfInBounds_toArray, List.set_cons_zero, List.set_cons_succ])
                refine wpAnyH_take (i := 5) (oi := Oper.mk (some 129) _ _ _ _ _) (v := ?_) rfl (by decide +kernel) (by decide +kernel) (by decide +kernel) (fun _ _ _ h => h) (Or.inl ⟨by rfl, ?_⟩) (by assumption) ?_
                rotate_left
                ·
                 (intro w hSw; (try dsimp only at hSw); go_simp <;> (try with_reducible rfl))
                (try simp only [Act.put, List.setIfInBounds_toArray, List.set_cons_zero, List.set_cons_succ])
                refine wpAnyH_take (i := 6) (oi := Oper.mk (some 130) _ _ _ _ _) (v := ?_) rfl (by decide +kernel) (by decide +kernel) (by decide +kernel) (fun _ _ _ h => h) (Or.inl ⟨by rfl, ?_⟩) (by assumption) ?_
                rotate_left
                ·
                 (intro w hSw; (try dsimp only at hSw); go_simp <;> (try with_reducible rfl))
                (try simp only [Act.put, List.setIfInBounds_toArray, List.set_cons_zero, List.set_cons_succ])
                refine wpAnyH_take (i := 7) (oi := Oper.mk (some 131) _ _ _ _ _) (v := ?_) rfl (by decide +kernel) (by decide +kernel) (by decide +kernel) (fun _ _ _ h => h) (Or.inl ⟨by rfl, ?_⟩) (by assumption) ?_
                rotate_left
                ·
                 (intro w hSw; (try dsimp only at hSw); go_simp <;> (try with_reducible rfl))
                (try simp only [Act.put, List.setIfInBounds_toArray, List.set_cons_zero, List.set_cons_succ])
                refine wpAnyH_take (i := 8) (oi := Oper.mk (some 132) _ _ _ _ _) (v := ?_) rfl (by decide +kernel) (by decide +kernel) (by decide +kernel) (fun _ _ _ h => h) (Or.inl ⟨by rfl, ?_⟩) (by assumption) ?_
                rotate_left
                ·
                 (intro w hSw; (try dsimp only at hSw); go_simp <;> (try with_reducible rfl))
                (try simp only [Act.put, List.setIfInBounds_toArray, List.set_cons_zero, List.set_cons_succ])
                refine wpAnyH_ready (rs := [9]) (by decide +kernel) (by simp) ?_
                refine AllReadyH.cons (o := Oper.mk (some 133) _ _ _ _ _) rfl (fun K hK => ?_) AllReadyH.nil
                go_simp
                (go_at_call 28; refine (qplus_any n20 n21 o20 p20 o21 p21 l20 c20 m20 k20 l21 c21 m21 k21 v u _ (hV'.out.later (Below.refl _ _).drew) (HVt.out.1.later (Below.refl _ _).drew) (HVq.out.2.1.mono (by decide)) (HVt.out.2.1.mono (by decide))).mono ?_; rintro e f1 ⟨n22, o22, l22, c22, p22, m22, k22, rfl, hr, hb⟩; have H22 : Hid (RatAt f1 n22 o22 l22 c22 p22 m22 k22 (v + u)) := hr; clear hr; have hbF1 : Below Z.heap.size Z f1 := bnext (Below.refl _ _).drew hb; clear hb)
                (try go_wp2_with fail)
                clear hHeld
                refine hK.out _ _ (by (try dsimp only); first | exact K22.out _ (Below.refl _ _).drew | exact K22.out _ (by assumption)) (fun hHeld => ?_)
                clear hK K
                (try simp only [Act.put, List.setIfInBounds_toArray, List.set_cons_zero, List.set_cons_succ])
                refine wpAnyH_ready (rs := [10]) (by decide +kernel) (by simp) ?_
                refine AllReadyH.cons (o := Oper.mk (some 134) _ _ _ _ _) rfl (fun K hK => ?_) AllReadyH.nil
                go_simp
                (go_at_call 27; refine (phas_any n6 n7 n22 o6 p6 o7 p7 o22 p22 l6 c6 m6 k6 l7 c7 m7 k7 l22 c22 m22 k22 (a1 + a3) (a2 + a4) (v + u) _ (HX5.out.2.1.later (bnext hbQ hbF1)) (HX5.out.2.2.1.later (bnext hbQ hbF1)) H22.out HSZ.out.1.1 HSZ.out.1.2.1 HSZ.out.1.2.2 true (sum_has HVq.out.2.2 HVt.out.2.2)).mono ?_; rintro e f2 ⟨rfl, hb⟩; skip; have hbF2 : Below Z.heap.size Z f2 := bnext hbF1 hb; clear hb)
                (try go_wp2_with fail)
                clear hHeld
                refine hK.out _ _ (by (try dsimp only); first | exact K22.out _ (Below.refl _ _).drew | exact K22.out _ (by assumption)) (fun hHeld => ?_)
                clear hK K
                (try simp only [Act.put, List.setIfInBounds_toArray, List.set_cons_zero, List.set_cons_succ])
                refine wpAnyH_take (i := 11) (oi := Oper.mk (some 135) _ _ _ _ _) (v := ?_) rfl (by decide +kernel) (by decide +kernel) (by decide +kernel) (fun _ _ _ h => h) (Or.inl ⟨by rfl, ?_⟩) (by assumption) ?_
                rotate_left
                ·
                 (intro w hSw; (try dsimp only at hSw); go_simp <;> (try with_reducible rfl))
                (try simp only [Act.put, List.setIfInBounds_toArray, List.set_cons_zero, List.set_cons_succ])
                refine wpAnyH_take (i := 12) (oi := Oper.mk (some 136) _ _ _ _ _) (v := ?_) rfl (by decide +kernel) (by decide +kernel) (by decide +kernel) (fun _ _ _ h => h) (Or.inl ⟨by rfl, ?_⟩) (by assumption) ?_
                rotate_left
                ·
                 (intro w hSw; (try dsimp only at hSw); go_simp <;> (try with_reducible rfl))
                (try simp only [Act.put, List.setIfInBounds_toArray, List.set_cons_zero, List.set_cons_succ])
                refine wpAnyH_take (i := 13) (oi := Oper.mk (some 137) _ _ _ _ _) (v := ?_) rfl (by decide +kernel) (by decide +kernel) (by decide +kernel) (fun _ _ _ h => h) (Or.inl ⟨by rfl, ?_⟩) (by assumption) ?_
                rotate_left
                ·
                 (intro w hSw; (try dsimp only at hSw); go_simp <;> (try with_reducible rfl))
                (try simp only [Act.put, List.setIfInBounds_toArray, List.set_cons_zero, List.set_cons_succ])
                refine wpAnyH_take (i := 14) (oi := Oper.mk (some 138) _ _ _ _ _) (v := ?_) rfl (by decide +kernel) (by decide +kernel) (by decide +kernel) (fun _ _ _ h => h) (Or.inl ⟨by rfl, ?_⟩) (by assumption) ?_
                rotate_left
                ·
                 (intro w hSw; (try dsimp only at hSw); go_simp <;> (try with_reducible rfl))
                (try simp only [Act.put, List.setIfInBounds_toArray, List.set_cons_zero, List.set_cons_succ])
                refine wpAnyH_take (i := 15) (oi := Oper.mk (some 139) _ _ _ _ _) (v := ?_) rfl (by decide +kernel) (by decide +kernel) (by decide +kernel) (fun _ _ _ h => h) (Or.inl ⟨by rfl, ?_⟩) (by assumption) ?_
                rotate_left
                ·
                 (intro w hSw; (try dsimp only at hSw); go_simp <;> (try with_reducible rfl))
                (try simp only [Act.put, List.setIfInBounds_toArray, List.set_cons_zero, List.set_cons_succ])
                refine wpAnyH_take (i := 16) (oi := Oper.mk (some 140) _ _ _ _ _) (v := ?_) rfl (by decide +kernel) (by decide +kernel) (by decide +kernel) (fun _ _ _ h => h) (Or.inl ⟨by rfl, ?_⟩) (by assumption) ?_
                rotate_left
                ·
                 (intro w hSw; (try dsimp only at hSw); go_simp <;> (try with_reducible rfl))
                (try simp only [Act.put, List.setIfInBounds_toArray, List.set_cons_zero, List.set_cons_succ])
                refine wpAnyH_take (i := 17) (oi := Oper.mk (some 141) _ _ _ _ _) (v := ?_) rfl (by decide +kernel) (by decide +kernel) (by decide +kernel) (fun _ _ _ h => h) (Or.inl ⟨by rfl, ?_⟩) (by assumption) ?_
                rotate_left
                ·
                 (intro w hSw; (try dsimp only at hSw); go_simp <;> (try with_reducible rfl))
                (try simp only [Act.put, List.setIfInBounds_toArray, List.set_cons_zero, List.set_cons_succ])
                refine wpAnyH_take (i := 18) (oi := Oper.mk (some 142) _ _ _ _ _) (v := ?_) rfl (by decide +kernel) (by decide +kernel) (by decide +kernel) (fun _ _ _ h => h) (Or.inl ⟨by rfl, ?_⟩) (by assumption) ?_
                rotate_left
                ·
                 (intro w hSw; (try dsimp only at hSw); go_simp <;> (try with_reducible rfl))
                (try simp only [Act.put, List.setIfInBounds_toArray, List.set_cons_zero, List.set_cons_succ])
                refine wpAnyH_take (i := 19) (oi := Oper.mk (some 143) _ _ _ _ _) (v := ?_) rfl (by decide +kernel) (by decide +kernel) (by decide +kernel) (fun _ _ _ h => h) (Or.inl ⟨by rfl, ?_⟩) (by assumption) ?_
                rotate_left
                ·
                 (intro w hSw; (try dsimp only at hSw); go_simp <;> (try with_reducible rfl))
                (try simp only [Act.put, List.setIfInBounds_toArray, List.set_cons_zero, List.set_cons_succ])
                refine wpAnyH_take (i := 20) (oi := Oper.mk (some 144) _ _ _ _ _) (v := ?_) rfl (by decide +kernel) (by decide +kernel) (by decide +kernel) (fun _ _ _ h => h) (Or.inl ⟨by rfl, ?_⟩) (by assumption) ?_
                rotate_left
                ·
                 (intro w hSw; (try dsimp only at hSw); go_simp <;> (try with_reducible rfl))
                (try simp only [Act.put, List.setIfInBounds_toArray, List.set_cons_zero, List.set_cons_succ])
                refine wpAnyH_take (i := 21) (oi := Oper.mk (some 145) _ _ _ _ _) (v := ?_) rfl (by decide +kernel) (by decide +kernel) (by decide +kernel) (fun _ _ _ h => h) (Or.inl ⟨by rfl, ?_⟩) (by assumption) ?_
                rotate_left
                ·
                 (intro w hSw; (try dsimp only at hSw); go_simp <;> (try with_reducible rfl))
                (try simp only [Act.put, List.setIfInBounds_toArray, List.set_cons_zero, List.set_cons_succ])
                refine wpAnyH_ready (rs := [22]) (by decide +kernel) (by simp) ?_
                refine AllReadyH.cons (o := Oper.mk (some 146) _ _ _ _ _) rfl (fun K hK => ?_) AllReadyH.nil
                go_simp
                (go_at_call 29; refine (qtimes_any n20 n21 o20 p20 o21 p21 l20 c20 m20 k20 l21 c21 m21 k21 v u _ (hV'.out.later hbF2) (HVt.out.1.later hbF2) (HVq.out.2.1.mono (by decide)) (HVt.out.2.1.mono (by decide))).mono ?_; rintro e f3 ⟨n23, o23, l23, c23, p23, m23, k23, rfl, hr, hb⟩; have H23 : Hid (RatAt f3 n23 o23 l23 c23 p23 m23 k23 (v * u)) := hr; clear hr; have hbF3 : Below Z.heap.size Z f3 := bnext hbF2 hb; clear hb)
                (try go_wp2_with fail)
                clear hHeld
                refine hK.out _ _ (by (try dsimp only); first | exact K22.out _ (Below.refl _ _).drew | exact K22.out _ (by assumption)) (fun hHeld => ?_)
                clear hK K
                (try simp only [Act.put, List.setIfInBounds_toArray, List.set_cons_zero, List.set_cons_succ])
                refine wpAnyH_ready (rs := [23]) (by decide +kernel) (by simp) ?_
                refine AllReadyH.cons (o := Oper.mk (some 147) _ _ _ _ _) rfl (fun K hK => ?_) AllReadyH.nil
                go_simp
                (go_at_call 27; refine (phas_any n8 n9 n23 o8 p8 o9 p9 o23 p23 l8 c8 m8 k8 l9 c9 m9 k9 l23 c23 m23 k23 (loK (prods a1 a2 a3 a4) 4) (hiK (prods a1 a2 a3 a4) 4) (v * u) _ (HX5.out.2.2.2.2.1.later (bnext hbQ hbF3)) (HX5.out.2.2.2.2.2.1.later (bnext hbQ hbF3)) H23.out HSZ.out.2.1 HSZ.out.2.2.1 HSZ.out.2.2.2 true (prod_has HVq.out.2.2 HVt.out.2.2)).mono ?_; rintro e f4 ⟨rfl, hb⟩; skip; have hbF4 : Below Z.heap.size Z f4 := bnext hbF3 hb; clear hb)
                (try go_wp2_with fail)
                clear hHeld
                refine hK.out _ _ (by (try dsimp only); first | exact K22.out _ (Below.refl _ _).drew | exact K22.out _ (by assumption)) (fun hHeld => ?_)
                clear hK K
                (try simp only [Act.put, List.setIfInBounds_toArray, List.set_cons_zero, List.set_cons_succ])
                refine wpAnyH_take (i := 24) (oi := Oper.mk (some 148) _ _ _ _ _) (v := ?_) rfl (by decide +kernel) (by decide +kernel) (by decide +kernel) (fun _ _ _ h => h) (Or.inl ⟨by rfl, ?_⟩) (by assumption) ?_
                rotate_left
                ·
                 (intro w hSw; (try dsimp only at hSw); go_simp <;> (try with_reducible rfl))
                (try simp only [Act.put, List.setIfInBounds_toArray, List.set_cons_zero, List.set_cons_succ])
                refine wpAnyH_take (i := 25) (oi := Oper.mk (some 149) _ _ _ _ _) (v := ?_) rfl (by decide +kernel) (by decide +kernel) (by decide +kernel) (fun _ _ _ h => h) (Or.inl ⟨by rfl, ?_⟩) (by assumption) ?_
                rotate_left
                ·
                 (intro w hSw; (try dsimp only at hSw); go_simp <;> (try with_reducible rfl))
                (try simp only [Act.put, List.setIfInBounds_toArray, List.set_cons_zero, List.set_cons_succ])
                refine wpAnyH_done (by decide +kernel) ?_ _
                refine NoPanic.normal ?_
                go_wp2
                go_roundw
                case rel => exact ⟨t + 1, by omega, by go_num, bnext hbt hbF4⟩
                case measure => simp [intOf]; omega
               ·
                as_aux_lemma =>
                obtain rfl : t = 3 := by omega
                go_upto_region 24 with fail
                have K24 : Hid (∀ w' : World, Below Z.heap.size Z w' → w'.cell? ⟨r10, 0, none⟩ = some (.bool n10) ∧ w'.cell? ⟨r10, 1, none⟩ = some (.slice o10 l10 c10) ∧ w'.cell? ⟨r10, 2, none⟩ = some (.slice p10 m10 k10) ∧ w'.cell? ⟨r10, 3, none⟩ = some (.bool n11) ∧ w'.cell? ⟨r10, 4, none⟩ = some (.slice o11 l11 c11) ∧ w'.cell? ⟨r10, 5, none⟩ = some (.slice p11 m11 k11) ∧ w'.cell? ⟨g1, q * 3, none⟩ = some (.bool n20) ∧ w'.cell? ⟨g1, q * 3 + 1, none⟩ = some (.slice o20 l20 c20) ∧ w'.cell? ⟨g1, q * 3 + 2, none⟩ = some (.slice p20 m20 k20)) := fun w' h => (by obtain ⟨e1, e2, e3⟩ := HCq.out w' (bnext hbQ h); have z6 := HX5.out.2.2.2.2.2.2.1.later (bnext hbQ h) HX5.out.2.2.2.2.2.2.1.lt; exact ⟨z6.1 0 _ rfl, z6.1 1 _ rfl, z6.1 2 _ rfl, z6.1 3 _ rfl, z6.1 4 _ rfl, z6.1 5 _ rfl, e1, e2, e3⟩)
                have hV' : Hid (RatAt Z n20 o20 l20 c20 p20 m20 k20 v) := HVq.out.1.later hbt
                have HSZ : Hid ((Sz (pwLo a1 a2 nn) 1000 ∧ Sz (pwHi a1 a2 nn) 1000) ∧ Sz (v ^ nn) 1000) := ⟨pw_sz (HZ.out.1.1.mono (by decide)) (HZ.out.1.2.mono (by decide)) (by omega), HVq.out.2.1.powk (by omega)⟩
                refine wp_region_noPanic ?_
                refine wp_region_held_drew (S := fun w' => (w'.cell? ⟨r10, 0, none⟩ = some (.bool n10) ∧ w'.cell? ⟨r10, 1, none⟩ = some (.slice o10 l10 c10) ∧ w'.cell? ⟨r10, 2, none⟩ = some (.slice p10 m10 k10) ∧ w'.cell? ⟨r10, 3, none⟩ = some (.bool n11) ∧ w'.cell? ⟨r10, 4, none⟩ = some (.slice o11 l11 c11) ∧ w'.cell? ⟨r10, 5, none⟩ = some (.slice p11 m11 k11) ∧ w'.cell? ⟨g1, q * 3, none⟩ = some (.bool n20) ∧ w'.cell? ⟨g1, q * 3 + 1, none⟩ = some (.slice o20 l20 c20) ∧ w'.cell? ⟨g1, q * 3 + 2, none⟩ = some (.slice p20 m20 k20))) (by kernel_rfl) (by (try dsimp only); exact K24.out _ (Below.refl _ _).drew) (fun hHeld => ?_)
                refine wpAnyH_take (i := 0) (oi := Oper.mk (some 150) _ _ _ _ _) (v := ?_) rfl (by decide +kernel) (by decide +kernel) (by decide +kernel) (fun _ _ _ h => h) (Or.inl ⟨by rfl, ?_⟩) (by assumption) ?_
                rotate_left
                ·
                 (intro w hSw; (try dsimp only at hSw); go_simp <;> (try with_reducible rfl))
                (try simp only [Act.put, List.setIfInBounds_toArray, List.set_cons_zero, List.set_cons_succ])
                refine wpAnyH_take (i := 1) (oi := Oper.mk (some 151) _ _ _ _ _) (v := ?_) rfl (by decide +kernel) (by decide +kernel) (by decide +kernel) (fun _ _ _ h => h) (Or.inl ⟨by rfl, ?_⟩) (by assumption) ?_
                rotate_left
                ·
                 (intro w hSw; (try dsimp only at hSw); go_simp <;> (try with_reducible rfl))
                (try simp only [Act.put, List.setIfInBounds_toArray, List.set_cons_zero, List.set_cons_succ])
                refine wpAnyH_take (i := 2) (oi := Oper.mk (some 152) _ _ _ _ _) (v := ?_) rfl (by decide +kernel) (by decide +kernel) (by decide +kernel) (fun _ _ _ h => h) (Or.inl ⟨by rfl, ?_⟩) (by assumption) ?_
                rotate_left
                ·
                 (intro w hSw; (try dsimp only at hSw); go_simp <;> (try with_reducible rfl))
                (try simp only [Act.put, List.setIfInBounds_toArray, List.set_cons_zero, List.set_cons_succ])
                refine wpAnyH_take (i := 3) (oi := Oper.mk (some 153) _ _ _ _ _) (v := ?_) rfl (by decide +kernel) (by decide +kernel) (by decide +kernel) (fun _ _ _ h => h) (Or.inl ⟨by rfl, ?_⟩) (by assumption) ?_
                rotate_left
                ·
                 (intro w hSw; (try dsimp only at hSw); go_simp <;> (try with_reducible rfl))
                (try simp only [Act.put, List.setIfInBounds_toArray, List.set_cons_zero, List.set_cons_succ])
                refine wpAnyH_take (i := 4) (oi := Oper.mk (some 154) _ _ _ _ _) (v := ?_) rfl (by decide +kernel) (by decide +kernel) (by decide +kernel) (fun _ _ _ h => h) (Or.inl ⟨by rfl, ?_⟩) (by assumption) ?_
                rotate_left
                ·
                 (intro w hSw; (try dsimp only at hSw); go_simp <;> (try with_reducible rfl))
                (try simp only [Act.put, List.setIfInBounds_toArray, List.set_cons_zero, List.set_cons_succ])
                refine wpAnyH_take (i := 5) (oi := Oper.mk (some 155) _ _ _ _ _) (v := ?_) rfl (by decide +kernel) (by decide +kernel) (by decide +kernel) (fun _ _ _ h => h) (Or.inl ⟨by rfl, ?_⟩) (by assumption) ?_
                rotate_left
                ·
                 (intro w hSw; (try dsimp only at hSw); go_simp <;> (try with_reducible rfl))
                (try simp only [Act.put, List.setIfInBounds_toArray, List.set_cons_zero, List.set_cons_succ])
                refine wpAnyH_ready (rs := [6]) (by decide +kernel) (by simp) ?_
                refine AllReadyH.cons (o := Oper.mk (some 156) _ _ _ _ _) rfl (fun K hK => ?_) AllReadyH.nil
                go_simp
                (go_at_call 30; refine (qpow_nonneg n20 o20 p20 l20 c20 m20 k20 nn v _ (hV'.out.later (Below.refl _ _).drew) (HVq.out.2.1.mono (by decide)) (by omega)).mono ?_; rintro e f1 ⟨n24, o24, l24, c24, p24, m24, k24, rfl, hr, hb⟩; have H24 : Hid (RatAt f1 n24 o24 l24 c24 p24 m24 k24 (v ^ nn)) := hr; clear hr; have hbF1 : Below Z.heap.size Z f1 := bnext (Below.refl _ _).drew hb; clear hb)
                (try go_wp2_with fail)
                clear hHeld
                refine hK.out _ _ (by (try dsimp only); first | exact K24.out _ (Below.refl _ _).drew | exact K24.out _ (by assumption)) (fun hHeld => ?_)
                clear hK K
                (try simp only [Act.put, List.setIfInBounds_toArray, List.set_cons_zero, List.set_cons_succ])
                refine wpAnyH_ready (rs := [7]) (by decide +kernel) (by simp) ?_
                refine AllReadyH.cons (o := Oper.mk (some 157) _ _ _ _ _) rfl (fun K hK => ?_) AllReadyH.nil
                go_simp
                (go_at_call 27; refine (phas_any n10 n11 n24 o10 p10 o11 p11 o24 p24 l10 c10 m10 k10 l11 c11 m11 k11 l24 c24 m24 k24 (pwLo a1 a2 nn) (pwHi a1 a2 nn) (v ^ nn) _ (HX5.out.2.2.2.2.2.2.2.1.later (bnext hbQ hbF1)) (HX5.out.2.2.2.2.2.2.2.2.1.later (bnext hbQ hbF1)) H24.out (HSZ.out.1.1.mono (by decide)) (HSZ.out.1.2.mono (by decide)) HSZ.out.2 true (pow_has HVq.out.2.2 nn)).mono ?_; rintro e f2 ⟨rfl, hb⟩; skip; have hbF2 : Below Z.heap.size Z f2 := bnext hbF1 hb; clear hb)
                (try go_wp2_with fail)
                clear hHeld
                refine hK.out _ _ (by (try dsimp only); first | exact K24.out _ (Below.refl _ _).drew | exact K24.out _ (by assumption)) (fun hHeld => ?_)
                clear hK K
                (try simp only [Act.put, List.setIfInBounds_toArray, List.set_cons_zero, List.set_cons_succ])
                refine wpAnyH_take (i := 8) (oi := Oper.mk (some 158) _ _ _ _ _) (v := ?_) rfl (by decide +kernel) (by decide +kernel) (by decide +kernel) (fun _ _ _ h => h) (Or.inl ⟨by rfl, ?_⟩) (by assumption) ?_
                rotate_left
                ·
                 (intro w hSw; (try dsimp only at hSw); go_simp <;> (try with_reducible rfl))
                (try simp only [Act.put, List.setIfInBounds_toArray, List.set_cons_zero, List.set_cons_succ])
                refine wpAnyH_done (by decide +kernel) ?_ _
                refine NoPanic.normal ?_
                go_wp2
                go_roundw
                case rel => exact ⟨q + 1, by omega, by go_num, bnext hbQ hbF2⟩
                case measure => simp [intOf]; omega
             ·
              as_aux_lemma =>
              obtain rfl : q = 3 := by omega
              have HY : Hid (Bx Y r6 [.bool n6, .slice o6 l6 c6, .slice p6 m6 k6, .bool n7, .slice o7 l7 c7, .slice p7 m7 k7] ∧ RatAt Y n6 o6 l6 c6 p6 m6 k6 (a1 + a3) ∧ RatAt Y n7 o7 l7 c7 p7 m7 k7 (a2 + a4) ∧ Bx Y r8 [.bool n8, .slice o8 l8 c8, .slice p8 m8 k8, .bool n9, .slice o9 l9 c9, .slice p9 m9 k9] ∧ RatAt Y n8 o8 l8 c8 p8 m8 k8 (loK (prods a1 a2 a3 a4) 4) ∧ RatAt Y n9 o9 l9 c9 p9 m9 k9 (hiK (prods a1 a2 a3 a4) 4) ∧ Bx Y r10 [.bool n10, .slice o10 l10 c10, .slice p10 m10 k10, .bool n11, .slice o11 l11 c11, .slice p11 m11 k11] ∧ RatAt Y n10 o10 l10 c10 p10 m10 k10 (pwLo a1 a2 nn) ∧ RatAt Y n11 o11 l11 c11 p11 m11 k11 (pwHi a1 a2 nn) ∧ Bx Y g1 [.bool n1, .slice o1 l1 c1, .slice p1 m1 k1, .bool n12, .slice o12 l12 c12, .slice p12 m12 k12, .bool n2, .slice o2 l2 c2, .slice p2 m2 k2] ∧ RatAt Y n12 o12 l12 c12 p12 m12 k12 ((a1 + a2) * half2) ∧ Bx Y g2 [.bool n3, .slice o3 l3 c3, .slice p3 m3 k3, .bool n13, .slice o13 l13 c13, .slice p13 m13 k13, .bool n4, .slice o4 l4 c4, .slice p4 m4 k4] ∧ RatAt Y n13 o13 l13 c13 p13 m13 k13 ((a3 + a4) * half2) ∧ Below W.heap.size W Y) := ⟨HX5.out.1.later hbq HX5.out.1.lt, HX5.out.2.1.later hbq, HX5.out.2.2.1.later hbq, HX5.out.2.2.2.1.later hbq HX5.out.2.2.2.1.lt, HX5.out.2.2.2.2.1.later hbq, HX5.out.2.2.2.2.2.1.later hbq, HX5.out.2.2.2.2.2.2.1.later hbq HX5.out.2.2.2.2.2.2.1.lt, HX5.out.2.2.2.2.2.2.2.1.later hbq, HX5.out.2.2.2.2.2.2.2.2.1.later hbq, HX5.out.2.2.2.2.2.2.2.2.2.1.later hbq HX5.out.2.2.2.2.2.2.2.2.2.1.lt, HX5.out.2.2.2.2.2.2.2.2.2.2.1.later hbq, HX5.out.2.2.2.2.2.2.2.2.2.2.2.1.later hbq HX5.out.2.2.2.2.2.2.2.2.2.2.2.1.lt, HX5.out.2.2.2.2.2.2.2.2.2.2.2.2.1.later hbq, bnext HX5.out.2.2.2.2.2.2.2.2.2.2.2.2.2 hbq⟩
              clear HX5
              have zb := hP.later HY.out.2.2.2.2.2.2.2.2.2.2.2.2.2 (by omega); have z0 := zb.1 0 _ rfl; have z1 := zb.1 1 _ rfl; have z2 := zb.1 2 _ rfl; have z3 := zb.1 3 _ rfl; have z4 := zb.1 4 _ rfl; have z5 := zb.1 5 _ rfl; have z6 := zb.1 6 _ rfl; have z7 := zb.1 7 _ rfl; have z8 := zb.1 8 _ rfl; have z9 := zb.1 9 _ rfl; have z10 := zb.1 10 _ rfl; have z11 := zb.1 11 _ rfl; have z12 := zb.1 12 _ rfl; have z13 := zb.1 13 _ rfl; have z14 := zb.1 14 _ rfl; have z15 := zb.1 15 _ rfl; clear zb
              go_upto_region 26 with fail
              go_cut [16, 17, 18] (fun s8 s9 s10 wx => ∃ r8 r9 n14 o14 l14 c14 p14 m14 k14 n15 o15 l15 c15 p15 m15 k15 n16 o16 l16 c16 p16 m16 k16 n17 o17 l17 c17 p17 m17 k17, s8 = .pointer (some ⟨r8, 0, none⟩) ∧ s9 = .pointer (some ⟨r9, 0, none⟩) ∧ s10 = .int .i64 0 ∧ Bx wx r8 [.bool n14, .slice o14 l14 c14, .slice p14 m14 k14, .bool n15, .slice o15 l15 c15, .slice p15 m15 k15] ∧ Bx wx r9 [.bool n16, .slice o16 l16 c16, .slice p16 m16 k16, .bool n17, .slice o17 l17 c17, .slice p17 m17 k17] ∧ (RatAt wx n14 o14 l14 c14 p14 m14 k14 a1 ∧ RatAt wx n15 o15 l15 c15 p15 m15 k15 ((a1 + a2) * half2)) ∧ (RatAt wx n16 o16 l16 c16 p16 m16 k16 ((a1 + a2) * half2) ∧ RatAt wx n17 o17 l17 c17 p17 m17 k17 a2) ∧ Below Y.heap.size Y wx)
              case first => as_aux_lemma =>
               go_wp2_with (go_at_call 23; refine (shalves_any n1 n2 o1 p1 o2 p2 l1 c1 m1 k1 l2 c2 m2 k2 a1 a2 _ (HR.out.1.1.later HY.out.2.2.2.2.2.2.2.2.2.2.2.2.2) (HR.out.1.2.later HY.out.2.2.2.2.2.2.2.2.2.2.2.2.2) (HZ.out.1.1.mono (by decide)) (HZ.out.1.2.mono (by decide)) HLE.out.1 (tab_later HTW.out HY.out.2.2.2.2.2.2.2.2.2.2.2.2.2)).mono ?_; rintro e y ⟨n14, o14, l14, c14, p14, m14, k14, n15, o15, l15, c15, p15, m15, k15, n16, o16, l16, c16, p16, m16, k16, n17, o17, l17, c17, p17, m17, k17, rfl, hn, hn'⟩; have HN : Hid ((RatAt y n14 o14 l14 c14 p14 m14 k14 a1 ∧ RatAt y n15 o15 l15 c15 p15 m15 k15 ((a1 + a2) * half2)) ∧ (RatAt y n16 o16 l16 c16 p16 m16 k16 ((a1 + a2) * half2) ∧ RatAt y n17 o17 l17 c17 p17 m17 k17 a2) ∧ Below Y.heap.size Y y) := ⟨⟨hn.lo, hn.hi⟩, ⟨hn'.lo, hn'.hi⟩, hn.2.2.2⟩; clear hn hn')
               go_meet
               have q1 : Below y.heap.size y (y.alloc (.cells #[.bool n14, .slice o14 l14 c14, .slice p14 m14 k14, .bool n15, .slice o15 l15 c15, .slice p15 m15 k15] 30)) := (Below.refl _ _).alloc (Nat.le_refl _) _
               have q2 : Below (y.alloc (.cells #[.bool n14, .slice o14 l14 c14, .slice p14 m14 k14, .bool n15, .slice o15 l15 c15, .slice p15 m15 k15] 30)).heap.size (y.alloc (.cells #[.bool n14, .slice o14 l14 c14, .slice p14 m14 k14, .bool n15, .slice o15 l15 c15, .slice p15 m15 k15] 30)) ((y.alloc (.cells #[.bool n14, .slice o14 l14 c14, .slice p14 m14 k14, .bool n15, .slice o15 l15 c15, .slice p15 m15 k15] 30)).alloc (.cells #[.bool n16, .slice o16 l16 c16, .slice p16 m16 k16, .bool n17, .slice o17 l17 c17, .slice p17 m17 k17] 30)) := (Below.refl _ _).alloc (Nat.le_refl _) _
               have q4 := Bx.new (y.alloc (.cells #[.bool n14, .slice o14 l14 c14, .slice p14 m14 k14, .bool n15, .slice o15 l15 c15, .slice p15 m15 k15] 30)) [.bool n16, .slice o16 l16 c16, .slice p16 m16 k16, .bool n17, .slice o17 l17 c17, .slice p17 m17 k17] 30
               have q5 := (Bx.new y [.bool n14, .slice o14 l14 c14, .slice p14 m14 k14, .bool n15, .slice o15 l15 c15, .slice p15 m15 k15] 30)
               have q3 := bnext q1 q2
               rw [show (y.alloc (.cells #[.bool n14, .slice o14 l14 c14, .slice p14 m14 k14, .bool n15, .slice o15 l15 c15, .slice p15 m15 k15] 30)).heap.size = y.heap.size + 1 by simp] at q4
               exact ⟨_, _, n14, o14, l14, c14, p14, m14, k14, n15, o15, l15, c15, p15, m15, k15, n16, o16, l16, c16, p16, m16, k16, n17, o17, l17, c17, p17, m17, k17, rfl, rfl, rfl, q5.later q2 q5.lt, q4, ⟨HN.out.1.1.later q3, HN.out.1.2.later q3⟩, ⟨HN.out.2.1.1.later q3, HN.out.2.1.2.later q3⟩, bnext HN.out.2.2 q3⟩
              case rest =>
               clear z0 z1 z2 z3 z4 z5 z6 z7 z8 z9 z10 z11 z12 z13 z14 z15
               obtain ⟨r16, r17, n14, o14, l14, c14, p14, m14, k14, n15, o15, l15, c15, p15, m15, k15, n16, o16, l16, c16, p16, m16, k16, n17, o17, l17, c17, p17, m17, k17, rfl, rfl, rfl, hb8, hb9, h8, h9, hbX⟩ := hcut
               obtain ⟨X6, hX⟩ : ∃ X, X = wc := ⟨_, rfl⟩
               rw [← hX] at hb8 hb9 h8 h9 hbX
               rw [← hX]
               clear hX
               have HX6 : Hid (Bx X6 r6 [.bool n6, .slice o6 l6 c6, .slice p6 m6 k6, .bool n7, .slice o7 l7 c7, .slice p7 m7 k7] ∧ RatAt X6 n6 o6 l6 c6 p6 m6 k6 (a1 + a3) ∧ RatAt X6 n7 o7 l7 c7 p7 m7 k7 (a2 + a4) ∧ Bx X6 r8 [.bool n8, .slice o8 l8 c8, .slice p8 m8 k8, .bool n9, .slice o9 l9 c9, .slice p9 m9 k9] ∧ RatAt X6 n8 o8 l8 c8 p8 m8 k8 (loK (prods a1 a2 a3 a4) 4) ∧ RatAt X6 n9 o9 l9 c9 p9 m9 k9 (hiK (prods a1 a2 a3 a4) 4) ∧ Bx X6 r10 [.bool n10, .slice o10 l10 c10, .slice p10 m10 k10, .bool n11, .slice o11 l11 c11, .slice p11 m11 k11] ∧ RatAt X6 n10 o10 l10 c10 p10 m10 k10 (pwLo a1 a2 nn) ∧ RatAt X6 n11 o11 l11 c11 p11 m11 k11 (pwHi a1 a2 nn) ∧ Bx X6 g1 [.bool n1, .slice o1 l1 c1, .slice p1 m1 k1, .bool n12, .slice o12 l12 c12, .slice p12 m12 k12, .bool n2, .slice o2 l2 c2, .slice p2 m2 k2] ∧ RatAt X6 n12 o12 l12 c12 p12 m12 k12 ((a1 + a2) * half2) ∧ Bx X6 g2 [.bool n3, .slice o3 l3 c3, .slice p3 m3 k3, .bool n13, .slice o13 l13 c13, .slice p13 m13 k13, .bool n4, .slice o4 l4 c4, .slice p4 m4 k4] ∧ RatAt X6 n13 o13 l13 c13 p13 m13 k13 ((a3 + a4) * half2) ∧ Bx X6 r16 [.bool n14, .slice o14 l14 c14, .slice p14 m14 k14, .bool n15, .slice o15 l15 c15, .slice p15 m15 k15] ∧ Bx X6 r17 [.bool n16, .slice o16 l16 c16, .slice p16 m16 k16, .bool n17, .slice o17 l17 c17, .slice p17 m17 k17] ∧ RatAt X6 n14 o14 l14 c14 p14 m14 k14 a1 ∧ RatAt X6 n15 o15 l15 c15 p15 m15 k15 ((a1 + a2) * half2) ∧ RatAt X6 n16 o16 l16 c16 p16 m16 k16 ((a1 + a2) * half2) ∧ RatAt X6 n17 o17 l17 c17 p17 m17 k17 a2 ∧ Below W.heap.size W X6) := ⟨HY.out.1.later hbX HY.out.1.lt, HY.out.2.1.later hbX, HY.out.2.2.1.later hbX, HY.out.2.2.2.1.later hbX HY.out.2.2.2.1.lt, HY.out.2.2.2.2.1.later hbX, HY.out.2.2.2.2.2.1.later hbX, HY.out.2.2.2.2.2.2.1.later hbX HY.out.2.2.2.2.2.2.1.lt, HY.out.2.2.2.2.2.2.2.1.later hbX, HY.out.2.2.2.2.2.2.2.2.1.later hbX, HY.out.2.2.2.2.2.2.2.2.2.1.later hbX HY.out.2.2.2.2.2.2.2.2.2.1.lt, HY.out.2.2.2.2.2.2.2.2.2.2.1.later hbX, HY.out.2.2.2.2.2.2.2.2.2.2.2.1.later hbX HY.out.2.2.2.2.2.2.2.2.2.2.2.1.lt, HY.out.2.2.2.2.2.2.2.2.2.2.2.2.1.later hbX, hb8, hb9, h8.1, h8.2, h9.1, h9.2, bnext HY.out.2.2.2.2.2.2.2.2.2.2.2.2.2 hbX⟩
               clear HY
               clear hb8 hb9 h8 h9 hbX
               have HML : Hid (cmpQ a1 ((a1 + a2) * half2) ≤ 0 ∧ cmpQ ((a1 + a2) * half2) a2 ≤ 0) := (by obtain ⟨q1, q2⟩ := mid_le (cmpQ_le.1 HLE.out.1); exact ⟨cmpQ_le.2 q1, cmpQ_le.2 q2⟩)
               go_upto_region 27 with fail
               have zb := hP.later HX6.out.2.2.2.2.2.2.2.2.2.2.2.2.2.2.2.2.2.2.2 (by omega); have z0 := zb.1 0 _ rfl; have z1 := zb.1 1 _ rfl; have z2 := zb.1 2 _ rfl; have z3 := zb.1 3 _ rfl; have z4 := zb.1 4 _ rfl; have z5 := zb.1 5 _ rfl; have z6 := zb.1 6 _ rfl; have z7 := zb.1 7 _ rfl; have z8 := zb.1 8 _ rfl; have z9 := zb.1 9 _ rfl; have z10 := zb.1 10 _ rfl; have z11 := zb.1 11 _ rfl; have z12 := zb.1 12 _ rfl; have z13 := zb.1 13 _ rfl; have z14 := zb.1 14 _ rfl; have z15 := zb.1 15 _ rfl; clear zb
               have e8 := HX6.out.2.2.2.2.2.2.2.2.2.2.2.2.2.1; have y0 := e8.1 0 _ rfl; have y1 := e8.1 1 _ rfl; have y2 := e8.1 2 _ rfl; have y3 := e8.1 3 _ rfl; have y4 := e8.1 4 _ rfl; have y5 := e8.1 5 _ rfl; clear e8
               go_cut [19, 20] (fun sA sB wx => ∃ rA n18 o18 l18 c18 p18 m18 k18 n19 o19 l19 c19 p19 m19 k19, sA = .pointer (some ⟨rA, 0, none⟩) ∧ sB = .int .i64 0 ∧ Bx wx rA [.bool n18, .slice o18 l18 c18, .slice p18 m18 k18, .bool n19, .slice o19 l19 c19, .slice p19 m19 k19] ∧ RatAt wx n18 o18 l18 c18 p18 m18 k18 (loK (prods a1 ((a1 + a2) * half2) a3 a4) 4) ∧ RatAt wx n19 o19 l19 c19 p19 m19 k19 (hiK (prods a1 ((a1 + a2) * half2) a3 a4) 4) ∧ Below X6.heap.size X6 wx)
               case first => as_aux_lemma =>
                go_wp2_with (go_at_call 19; refine (smul_any n14 n15 n3 n4 o14 p14 o15 p15 o3 p3 o4 p4 l14 c14 m14 k14 l15 c15 m15 k15 l3 c3 m3 k3 l4 c4 m4 k4 a1 ((a1 + a2) * half2) a3 a4 _ HX6.out.2.2.2.2.2.2.2.2.2.2.2.2.2.2.2.1 HX6.out.2.2.2.2.2.2.2.2.2.2.2.2.2.2.2.2.1 (HR.out.2.1.later HX6.out.2.2.2.2.2.2.2.2.2.2.2.2.2.2.2.2.2.2.2) (HR.out.2.2.later HX6.out.2.2.2.2.2.2.2.2.2.2.2.2.2.2.2.2.2.2.2) (HZ.out.1.1.mono (by decide)) (HMZ.out.1.mono (by decide)) (HZ.out.2.1.mono (by decide)) (HZ.out.2.2.mono (by decide)) HML.out.1 HLE.out.2 (tab_later HTW.out HX6.out.2.2.2.2.2.2.2.2.2.2.2.2.2.2.2.2.2.2.2)).mono ?_; rintro e y ⟨n18, o18, l18, c18, p18, m18, k18, n19, o19, l19, c19, p19, m19, k19, rfl, hn⟩; have HN : Hid (RatAt y n18 o18 l18 c18 p18 m18 k18 (loK (prods a1 ((a1 + a2) * half2) a3 a4) 4) ∧ RatAt y n19 o19 l19 c19 p19 m19 k19 (hiK (prods a1 ((a1 + a2) * half2) a3 a4) 4) ∧ Below X6.heap.size X6 y) := ⟨hn.lo, hn.hi, hn.2.2.2⟩; clear hn)
                go_meet
                exact ⟨_, n18, o18, l18, c18, p18, m18, k18, n19, o19, l19, c19, p19, m19, k19, rfl, rfl, Bx.new _ _ _, HN.out.1.later ((Below.refl _ _).alloc (Nat.le_refl _) _), HN.out.2.1.later ((Below.refl _ _).alloc (Nat.le_refl _) _), below_alloc HN.out.2.2 (Nat.le_refl _)⟩
               case rest =>
                clear z0 z1 z2 z3 z4 z5 z6 z7 z8 z9 z10 z11 z12 z13 z14 z15
                obtain ⟨r19, n18, o18, l18, c18, p18, m18, k18, n19, o19, l19, c19, p19, m19, k19, rfl, rfl, hbA, h1, h2, hbX⟩ := hcut
                obtain ⟨X7, hX⟩ : ∃ X, X = wc := ⟨_, rfl⟩
                rw [← hX] at hbA h1 h2 hbX
                rw [← hX]
                clear hX
                have HX7 : Hid (Bx X7 r6 [.bool n6, .slice o6 l6 c6, .slice p6 m6 k6, .bool n7, .slice o7 l7 c7, .slice p7 m7 k7] ∧ RatAt X7 n6 o6 l6 c6 p6 m6 k6 (a1 + a3) ∧ RatAt X7 n7 o7 l7 c7 p7 m7 k7 (a2 + a4) ∧ Bx X7 r8 [.bool n8, .slice o8 l8 c8, .slice p8 m8 k8, .bool n9, .slice o9 l9 c9, .slice p9 m9 k9] ∧ RatAt X7 n8 o8 l8 c8 p8 m8 k8 (loK (prods a1 a2 a3 a4) 4) ∧ RatAt X7 n9 o9 l9 c9 p9 m9 k9 (hiK (prods a1 a2 a3 a4) 4) ∧ Bx X7 r10 [.bool n10, .slice o10 l10 c10, .slice p10 m10 k10, .bool n11, .slice o11 l11 c11, .slice p11 m11 k11] ∧ RatAt X7 n10 o10 l10 c10 p10 m10 k10 (pwLo a1 a2 nn) ∧ RatAt X7 n11 o11 l11 c11 p11 m11 k11 (pwHi a1 a2 nn) ∧ Bx X7 g1 [.bool n1, .slice o1 l1 c1, .slice p1 m1 k1, .bool n12, .slice o12 l12 c12, .slice p12 m12 k12, .bool n2, .slice o2 l2 c2, .slice p2 m2 k2] ∧ RatAt X7 n12 o12 l12 c12 p12 m12 k12 ((a1 + a2) * half2) ∧ Bx X7 g2 [.bool n3, .slice o3 l3 c3, .slice p3 m3 k3, .bool n13, .slice o13 l13 c13, .slice p13 m13 k13, .bool n4, .slice o4 l4 c4, .slice p4 m4 k4] ∧ RatAt X7 n13 o13 l13 c13 p13 m13 k13 ((a3 + a4) * half2) ∧ Bx X7 r16 [.bool n14, .slice o14 l14 c14, .slice p14 m14 k14, .bool n15, .slice o15 l15 c15, .slice p15 m15 k15] ∧ Bx X7 r17 [.bool n16, .slice o16 l16 c16, .slice p16 m16 k16, .bool n17, .slice o17 l17 c17, .slice p17 m17 k17] ∧ RatAt X7 n14 o14 l14 c14 p14 m14 k14 a1 ∧ RatAt X7 n15 o15 l15 c15 p15 m15 k15 ((a1 + a2) * half2) ∧ RatAt X7 n16 o16 l16 c16 p16 m16 k16 ((a1 + a2) * half2) ∧ RatAt X7 n17 o17 l17 c17 p17 m17 k17 a2 ∧ Bx X7 r19 [.bool n18, .slice o18 l18 c18, .slice p18 m18 k18, .bool n19, .slice o19 l19 c19, .slice p19 m19 k19] ∧ RatAt X7 n18 o18 l18 c18 p18 m18 k18 (loK (prods a1 ((a1 + a2) * half2) a3 a4) 4) ∧ RatAt X7 n19 o19 l19 c19 p19 m19 k19 (hiK (prods a1 ((a1 + a2) * half2) a3 a4) 4) ∧ Below W.heap.size W X7) := ⟨HX6.out.1.later hbX HX6.out.1.lt, HX6.out.2.1.later hbX, HX6.out.2.2.1.later hbX, HX6.out.2.2.2.1.later hbX HX6.out.2.2.2.1.lt, HX6.out.2.2.2.2.1.later hbX, HX6.out.2.2.2.2.2.1.later hbX, HX6.out.2.2.2.2.2.2.1.later hbX HX6.out.2.2.2.2.2.2.1.lt, HX6.out.2.2.2.2.2.2.2.1.later hbX, HX6.out.2.2.2.2.2.2.2.2.1.later hbX, HX6.out.2.2.2.2.2.2.2.2.2.1.later hbX HX6.out.2.2.2.2.2.2.2.2.2.1.lt, HX6.out.2.2.2.2.2.2.2.2.2.2.1.later hbX, HX6.out.2.2.2.2.2.2.2.2.2.2.2.1.later hbX HX6.out.2.2.2.2.2.2.2.2.2.2.2.1.lt, HX6.out.2.2.2.2.2.2.2.2.2.2.2.2.1.later hbX, HX6.out.2.2.2.2.2.2.2.2.2.2.2.2.2.1.later hbX HX6.out.2.2.2.2.2.2.2.2.2.2.2.2.2.1.lt, HX6.out.2.2.2.2.2.2.2.2.2.2.2.2.2.2.1.later hbX HX6.out.2.2.2.2.2.2.2.2.2.2.2.2.2.2.1.lt, HX6.out.2.2.2.2.2.2.2.2.2.2.2.2.2.2.2.1.later hbX, HX6.out.2.2.2.2.2.2.2.2.2.2.2.2.2.2.2.2.1.later hbX, HX6.out.2.2.2.2.2.2.2.2.2.2.2.2.2.2.2.2.2.1.later hbX, HX6.out.2.2.2.2.2.2.2.2.2.2.2.2.2.2.2.2.2.2.1.later hbX, hbA, h1, h2, bnext HX6.out.2.2.2.2.2.2.2.2.2.2.2.2.2.2.2.2.2.2.2 hbX⟩
                clear HX6
                have hlt19 := hbA.lt
                clear hbA h1 h2 hbX
                clear y0 y1 y2 y3 y4 y5
                have zb := hP.later HX7.out.2.2.2.2.2.2.2.2.2.2.2.2.2.2.2.2.2.2.2.2.2.2 (by omega); have z0 := zb.1 0 _ rfl; have z1 := zb.1 1 _ rfl; have z2 := zb.1 2 _ rfl; have z3 := zb.1 3 _ rfl; have z4 := zb.1 4 _ rfl; have z5 := zb.1 5 _ rfl; have z6 := zb.1 6 _ rfl; have z7 := zb.1 7 _ rfl; have z8 := zb.1 8 _ rfl; have z9 := zb.1 9 _ rfl; have z10 := zb.1 10 _ rfl; have z11 := zb.1 11 _ rfl; have z12 := zb.1 12 _ rfl; have z13 := zb.1 13 _ rfl; have z14 := zb.1 14 _ rfl; have z15 := zb.1 15 _ rfl; clear zb
                have e8 := HX7.out.2.2.2.2.2.2.2.2.2.2.2.2.2.2.1; have y0 := e8.1 0 _ rfl; have y1 := e8.1 1 _ rfl; have y2 := e8.1 2 _ rfl; have y3 := e8.1 3 _ rfl; have y4 := e8.1 4 _ rfl; have y5 := e8.1 5 _ rfl; clear e8
                go_upto_region 28 with fail
                go_cut [21, 22] (fun sA sB wx => ∃ rA n25 o25 l25 c25 p25 m25 k25 n26 o26 l26 c26 p26 m26 k26, sA = .pointer (some ⟨rA, 0, none⟩) ∧ sB = .int .i64 0 ∧ Bx wx rA [.bool n25, .slice o25 l25 c25, .slice p25 m25 k25, .bool n26, .slice o26 l26 c26, .slice p26 m26 k26] ∧ RatAt wx n25 o25 l25 c25 p25 m25 k25 (loK (prods ((a1 + a2) * half2) a2 a3 a4) 4) ∧ RatAt wx n26 o26 l26 c26 p26 m26 k26 (hiK (prods ((a1 + a2) * half2) a2 a3 a4) 4) ∧ Below X7.heap.size X7 wx)
                case first => as_aux_lemma =>
                 go_wp2_with (go_at_call 19; refine (smul_any n16 n17 n3 n4 o16 p16 o17 p17 o3 p3 o4 p4 l16 c16 m16 k16 l17 c17 m17 k17 l3 c3 m3 k3 l4 c4 m4 k4 ((a1 + a2) * half2) a2 a3 a4 _ HX7.out.2.2.2.2.2.2.2.2.2.2.2.2.2.2.2.2.2.1 HX7.out.2.2.2.2.2.2.2.2.2.2.2.2.2.2.2.2.2.2.1 (HR.out.2.1.later HX7.out.2.2.2.2.2.2.2.2.2.2.2.2.2.2.2.2.2.2.2.2.2.2) (HR.out.2.2.later HX7.out.2.2.2.2.2.2.2.2.2.2.2.2.2.2.2.2.2.2.2.2.2.2) (HMZ.out.1.mono (by decide)) (HZ.out.1.2.mono (by decide)) (HZ.out.2.1.mono (by decide)) (HZ.out.2.2.mono (by decide)) HML.out.2 HLE.out.2 (tab_later HTW.out HX7.out.2.2.2.2.2.2.2.2.2.2.2.2.2.2.2.2.2.2.2.2.2.2)).mono ?_; rintro e y ⟨n25, o25, l25, c25, p25, m25, k25, n26, o26, l26, c26, p26, m26, k26, rfl, hn⟩; have HN : Hid (RatAt y n25 o25 l25 c25 p25 m25 k25 (loK (prods ((a1 + a2) * half2) a2 a3 a4) 4) ∧ RatAt y n26 o26 l26 c26 p26 m26 k26 (hiK (prods ((a1 + a2) * half2) a2 a3 a4) 4) ∧ Below X7.heap.size X7 y) := ⟨hn.lo, hn.hi, hn.2.2.2⟩; clear hn)
                 go_meet
                 exact ⟨_, n25, o25, l25, c25, p25, m25, k25, n26, o26, l26, c26, p26, m26, k26, rfl, rfl, Bx.new _ _ _, HN.out.1.later ((Below.refl _ _).alloc (Nat.le_refl _) _), HN.out.2.1.later ((Below.refl _ _).alloc (Nat.le_refl _) _), below_alloc HN.out.2.2 (Nat.le_refl _)⟩
                case rest =>
                 clear z0 z1 z2 z3 z4 z5 z6 z7 z8 z9 z10 z11 z12 z13 z14 z15
                 obtain ⟨r21, n25, o25, l25, c25, p25, m25, k25, n26, o26, l26, c26, p26, m26, k26, rfl, rfl, hbA, h1, h2, hbX⟩ := hcut
                 obtain ⟨X8, hX⟩ : ∃ X, X = wc := ⟨_, rfl⟩
                 rw [← hX] at hbA h1 h2 hbX
                 rw [← hX]
                 clear hX
                 have HX8 : Hid (Bx X8 r6 [.bool n6, .slice o6 l6 c6, .slice p6 m6 k6, .bool n7, .slice o7 l7 c7, .slice p7 m7 k7] ∧ RatAt X8 n6 o6 l6 c6 p6 m6 k6 (a1 + a3) ∧ RatAt X8 n7 o7 l7 c7 p7 m7 k7 (a2 + a4) ∧ Bx X8 r8 [.bool n8, .slice o8 l8 c8, .slice p8 m8 k8, .bool n9, .slice o9 l9 c9, .slice p9 m9 k9] ∧ RatAt X8 n8 o8 l8 c8 p8 m8 k8 (loK (prods a1 a2 a3 a4) 4) ∧ RatAt X8 n9 o9 l9 c9 p9 m9 k9 (hiK (prods a1 a2 a3 a4) 4) ∧ Bx X8 r10 [.bool n10, .slice o10 l10 c10, .slice p10 m10 k10, .bool n11, .slice o11 l11 c11, .slice p11 m11 k11] ∧ RatAt X8 n10 o10 l10 c10 p10 m10 k10 (pwLo a1 a2 nn) ∧ RatAt X8 n11 o11 l11 c11 p11 m11 k11 (pwHi a1 a2 nn) ∧ Bx X8 g1 [.bool n1, .slice o1 l1 c1, .slice p1 m1 k1, .bool n12, .slice o12 l12 c12, .slice p12 m12 k12, .bool n2, .slice o2 l2 c2, .slice p2 m2 k2] ∧ RatAt X8 n12 o12 l12 c12 p12 m12 k12 ((a1 + a2) * half2) ∧ Bx X8 g2 [.bool n3, .slice o3 l3 c3, .slice p3 m3 k3, .bool n13, .slice o13 l13 c13, .slice p13 m13 k13, .bool n4, .slice o4 l4 c4, .slice p4 m4 k4] ∧ RatAt X8 n13 o13 l13 c13 p13 m13 k13 ((a3 + a4) * half2) ∧ Bx X8 r16 [.bool n14, .slice o14 l14 c14, .slice p14 m14 k14, .bool n15, .slice o15 l15 c15, .slice p15 m15 k15] ∧ Bx X8 r17 [.bool n16, .slice o16 l16 c16, .slice p16 m16 k16, .bool n17, .slice o17 l17 c17, .slice p17 m17 k17] ∧ RatAt X8 n14 o14 l14 c14 p14 m14 k14 a1 ∧ RatAt X8 n15 o15 l15 c15 p15 m15 k15 ((a1 + a2) * half2) ∧ RatAt X8 n16 o16 l16 c16 p16 m16 k16 ((a1 + a2) * half2) ∧ RatAt X8 n17 o17 l17 c17 p17 m17 k17 a2 ∧ Bx X8 r19 [.bool n18, .slice o18 l18 c18, .slice p18 m18 k18, .bool n19, .slice o19 l19 c19, .slice p19 m19 k19] ∧ RatAt X8 n18 o18 l18 c18 p18 m18 k18 (loK (prods a1 ((a1 + a2) * half2) a3 a4) 4) ∧ RatAt X8 n19 o19 l19 c19 p19 m19 k19 (hiK (prods a1 ((a1 + a2) * half2) a3 a4) 4) ∧ Bx X8 r21 [.bool n25, .slice o25 l25 c25, .slice p25 m25 k25, .bool n26, .slice o26 l26 c26, .slice p26 m26 k26] ∧ RatAt X8 n25 o25 l25 c25 p25 m25 k25 (loK (prods ((a1 + a2) * half2) a2 a3 a4) 4) ∧ RatAt X8 n26 o26 l26 c26 p26 m26 k26 (hiK (prods ((a1 + a2) * half2) a2 a3 a4) 4) ∧ Below W.heap.size W X8) := ⟨HX7.out.1.later hbX HX7.out.1.lt, HX7.out.2.1.later hbX, HX7.out.2.2.1.later hbX, HX7.out.2.2.2.1.later hbX HX7.out.2.2.2.1.lt, HX7.out.2.2.2.2.1.later hbX, HX7.out.2.2.2.2.2.1.later hbX, HX7.out.2.2.2.2.2.2.1.later hbX HX7.out.2.2.2.2.2.2.1.lt, HX7.out.2.2.2.2.2.2.2.1.later hbX, HX7.out.2.2.2.2.2.2.2.2.1.later hbX, HX7.out.2.2.2.2.2.2.2.2.2.1.later hbX HX7.out.2.2.2.2.2.2.2.2.2.1.lt, HX7.out.2.2.2.2.2.2.2.2.2.2.1.later hbX, HX7.out.2.2.2.2.2.2.2.2.2.2.2.1.later hbX HX7.out.2.2.2.2.2.2.2.2.2.2.2.1.lt, HX7.out.2.2.2.2.2.2.2.2.2.2.2.2.1.later hbX, HX7.out.2.2.2.2.2.2.2.2.2.2.2.2.2.1.later hbX HX7.out.2.2.2.2.2.2.2.2.2.2.2.2.2.1.lt, HX7.out.2.2.2.2.2.2.2.2.2.2.2.2.2.2.1.later hbX HX7.out.2.2.2.2.2.2.2.2.2.2.2.2.2.2.1.lt, HX7.out.2.2.2.2.2.2.2.2.2.2.2.2.2.2.2.1.later hbX, HX7.out.2.2.2.2.2.2.2.2.2.2.2.2.2.2.2.2.1.later hbX, HX7.out.2.2.2.2.2.2.2.2.2.2.2.2.2.2.2.2.2.1.later hbX, HX7.out.2.2.2.2.2.2.2.2.2.2.2.2.2.2.2.2.2.2.1.later hbX, HX7.out.2.2.2.2.2.2.2.2.2.2.2.2.2.2.2.2.2.2.2.1.later hbX HX7.out.2.2.2.2.2.2.2.2.2.2.2.2.2.2.2.2.2.2.2.1.lt, HX7.out.2.2.2.2.2.2.2.2.2.2.2.2.2.2.2.2.2.2.2.2.1.later hbX, HX7.out.2.2.2.2.2.2.2.2.2.2.2.2.2.2.2.2.2.2.2.2.2.1.later hbX, hbA, h1, h2, bnext HX7.out.2.2.2.2.2.2.2.2.2.2.2.2.2.2.2.2.2.2.2.2.2.2 hbX⟩
                 clear HX7
                 have hlt21 := hbA.lt
                 clear hbA h1 h2 hbX
                 clear y0 y1 y2 y3 y4 y5
                 have HSZ : Hid ((Sz (loK (prods a1 a2 a3 a4) 4) 1000 ∧ Sz (hiK (prods a1 a2 a3 a4) 4) 1000) ∧ (Sz (loK (prods a1 ((a1 + a2) * half2) a3 a4) 4) 1000 ∧ Sz (hiK (prods a1 ((a1 + a2) * half2) a3 a4) 4) 1000) ∧ (Sz (loK (prods ((a1 + a2) * half2) a2 a3 a4) 4) 1000 ∧ Sz (hiK (prods ((a1 + a2) * half2) a2 a3 a4) 4) 1000)) := ⟨⟨loK_sz (fun i hi => prods_sz HZ.out.1.1 HZ.out.1.2 HZ.out.2.1 HZ.out.2.2 i hi) 4 (by decide), hiK_sz (fun i hi => prods_sz HZ.out.1.1 HZ.out.1.2 HZ.out.2.1 HZ.out.2.2 i hi) 4 (by decide)⟩, ⟨loK_sz (fun i hi => prods_sz2 (HZ.out.1.1.mono (by decide)) HMZ.out.1 (HZ.out.2.1.mono (by decide)) (HZ.out.2.2.mono (by decide)) i hi) 4 (by decide), hiK_sz (fun i hi => prods_sz2 (HZ.out.1.1.mono (by decide)) HMZ.out.1 (HZ.out.2.1.mono (by decide)) (HZ.out.2.2.mono (by decide)) i hi) 4 (by decide)⟩, ⟨loK_sz (fun i hi => prods_sz2 HMZ.out.1 (HZ.out.1.2.mono (by decide)) (HZ.out.2.1.mono (by decide)) (HZ.out.2.2.mono (by decide)) i hi) 4 (by decide), hiK_sz (fun i hi => prods_sz2 HMZ.out.1 (HZ.out.1.2.mono (by decide)) (HZ.out.2.1.mono (by decide)) (HZ.out.2.2.mono (by decide)) i hi) 4 (by decide)⟩⟩
                 have HWI : Hid ((hasQ (loK (prods a1 a2 a3 a4) 4) (hiK (prods a1 a2 a3 a4) 4) (loK (prods a1 ((a1 + a2) * half2) a3 a4) 4) = true ∧ hasQ (loK (prods a1 a2 a3 a4) 4) (hiK (prods a1 a2 a3 a4) 4) (hiK (prods a1 ((a1 + a2) * half2) a3 a4) 4) = true) ∧ (hasQ (loK (prods a1 a2 a3 a4) 4) (hiK (prods a1 a2 a3 a4) 4) (loK (prods ((a1 + a2) * half2) a2 a3 a4) 4) = true ∧ hasQ (loK (prods a1 a2 a3 a4) 4) (hiK (prods a1 a2 a3 a4) 4) (hiK (prods ((a1 + a2) * half2) a2 a3 a4) 4) = true)) := ⟨prod_within (hasQ_self HLE.out.1).1 (hasQ_iff.2 (mid_le (cmpQ_le.1 HLE.out.1))) HLE.out.2, prod_within (hasQ_iff.2 (mid_le (cmpQ_le.1 HLE.out.1))) (hasQ_self HLE.out.1).2 HLE.out.2⟩
                 have e8 := HX8.out.2.2.2.2.2.2.2.2.2.2.2.2.2.2.2.2.2.2.2.1; have y0 := e8.1 0 _ rfl; have y1 := e8.1 1 _ rfl; have y2 := e8.1 2 _ rfl; have y3 := e8.1 3 _ rfl; have y4 := e8.1 4 _ rfl; have y5 := e8.1 5 _ rfl; clear e8; have e8 := HX8.out.2.2.2.2.2.2.2.2.2.2.2.2.2.2.2.2.2.2.2.2.2.2.1; have s0 := e8.1 0 _ rfl; have s1 := e8.1 1 _ rfl; have s2 := e8.1 2 _ rfl; have s3 := e8.1 3 _ rfl; have s4 := e8.1 4 _ rfl; have s5 := e8.1 5 _ rfl; clear e8; have e8 := HX8.out.2.2.2.1; have u0 := e8.1 0 _ rfl; have u1 := e8.1 1 _ rfl; have u2 := e8.1 2 _ rfl; have u3 := e8.1 3 _ rfl; have u4 := e8.1 4 _ rfl; have u5 := e8.1 5 _ rfl; clear e8
                 go_wp2_with (first
                  | (go_at_call 14; refine (num3_any 0 _).mono ?_; rintro e xn ⟨rfl, hxn⟩; replace hxn := hxn.symm; subst hxn)
                  | (go_at_call 31; have _t := hf1; refine (pwithin_yes n25 n26 n8 n9 o25 p25 o26 p26 o8 p8 o9 p9 l25 c25 m25 k25 l26 c26 m26 k26 l8 c8 m8 k8 l9 c9 m9 k9 _ _ _ _ _ (HX8.out.2.2.2.2.2.2.2.2.2.2.2.2.2.2.2.2.2.2.2.2.2.2.2.1.later hf1) (HX8.out.2.2.2.2.2.2.2.2.2.2.2.2.2.2.2.2.2.2.2.2.2.2.2.2.1.later hf1) (HX8.out.2.2.2.2.1.later hf1) (HX8.out.2.2.2.2.2.1.later hf1) (HSZ.out.2.2.1.mono (by decide)) (HSZ.out.2.2.2.mono (by decide)) (HSZ.out.1.1.mono (by decide)) (HSZ.out.1.2.mono (by decide)) HWI.out.2.1 HWI.out.2.2).mono ?_; rintro e f2 ⟨rfl, hf2⟩)
                  | (go_at_call 31; refine (pwithin_yes n18 n19 n8 n9 o18 p18 o19 p19 o8 p8 o9 p9 l18 c18 m18 k18 l19 c19 m19 k19 l8 c8 m8 k8 l9 c9 m9 k9 _ _ _ _ _ HX8.out.2.2.2.2.2.2.2.2.2.2.2.2.2.2.2.2.2.2.2.2.1 HX8.out.2.2.2.2.2.2.2.2.2.2.2.2.2.2.2.2.2.2.2.2.2.1 HX8.out.2.2.2.2.1 HX8.out.2.2.2.2.2.1 (HSZ.out.2.1.1.mono (by decide)) (HSZ.out.2.1.2.mono (by decide)) (HSZ.out.1.1.mono (by decide)) (HSZ.out.1.2.mono (by decide)) HWI.out.1.1 HWI.out.1.2).mono ?_; rintro e f1 ⟨rfl, hf1⟩; clear y0 y1 y2 y3 y4 y5 s0 s1 s2 s3 s4 s5 u0 u1 u2 u3 u4 u5; have e8 := HX8.out.2.2.2.2.2.2.2.2.2.2.2.2.2.2.2.2.2.2.2.1.later hf1 HX8.out.2.2.2.2.2.2.2.2.2.2.2.2.2.2.2.2.2.2.2.1.lt; have y0 := e8.1 0 _ rfl; have y1 := e8.1 1 _ rfl; have y2 := e8.1 2 _ rfl; have y3 := e8.1 3 _ rfl; have y4 := e8.1 4 _ rfl; have y5 := e8.1 5 _ rfl; clear e8; have e8 := HX8.out.2.2.2.2.2.2.2.2.2.2.2.2.2.2.2.2.2.2.2.2.2.2.1.later hf1 HX8.out.2.2.2.2.2.2.2.2.2.2.2.2.2.2.2.2.2.2.2.2.2.2.1.lt; have s0 := e8.1 0 _ rfl; have s1 := e8.1 1 _ rfl; have s2 := e8.1 2 _ rfl; have s3 := e8.1 3 _ rfl; have s4 := e8.1 4 _ rfl; have s5 := e8.1 5 _ rfl; clear e8; have e8 := HX8.out.2.2.2.1.later hf1 HX8.out.2.2.2.1.lt; have u0 := e8.1 0 _ rfl; have u1 := e8.1 1 _ rfl; have u2 := e8.1 2 _ rfl; have u3 := e8.1 3 _ rfl; have u4 := e8.1 4 _ rfl; have u5 := e8.1 5 _ rfl; clear e8))
                 go_roundw
                 case rel => exact ⟨k + 1, by omega, by omega, by go_num, bnext hbW (bnext HX8.out.2.2.2.2.2.2.2.2.2.2.2.2.2.2.2.2.2.2.2.2.2.2.2.2.2 (bnext hf1 hf2))⟩
                 case measure => simp [intOf]; omega
    ·
     as_aux_lemma =>
     have HH : Hid ((((((decide ((4 : Int) < (l1 : Int)) || decide ((4 : Int) < (m1 : Int))) || (decide ((4 : Int) < (l2 : Int)) || decide ((4 : Int) < (m2 : Int)))) || (decide ((4 : Int) < (l3 : Int)) || decide ((4 : Int) < (m3 : Int)))) || (decide ((4 : Int) < (l4 : Int)) || decide ((4 : Int) < (m4 : Int)))) || (decide ((4 : Int) < (l5 : Int)) || decide ((4 : Int) < (m5 : Int)))) = true) := hhv
     clear hhv
     go_wp2_with (go_at_call 5; refine (heavyS_any n1 n2 n3 n4 n5 o1 p1 o2 p2 o3 p3 o4 p4 o5 p5 l1 c1 m1 k1 l2 c2 m2 k2 l3 c3 m3 k3 l4 c4 m4 k4 l5 c5 m5 k5 N0 _ true HH.out).mono ?_; rintro e w1 ⟨rfl, hb1⟩)
     go_ret
     exact ⟨rfl, bnext hbW hb1⟩
  ·
   have hwk : ∀ X, Below w.heap.size w X → Calls Tryz.prog 25 #[] X fun e w' => e = .returned (.bool true) ∧ Below X.heap.size X w' := fun X h => wakes3_any X (tab_later HT.out h)
   have hend : ¬ k < len ∨ k = 30 := by omega
   clear hlt
   rcases hend with he | he
   ·
    as_aux_lemma =>
    go_wp2_with (go_at_call 25; refine (hwk _ hbel).mono ?_; rintro e w9 ⟨rfl, hb9⟩)
    go_ret
    exact ⟨rfl, bnext hbel hb9⟩
   ·
    subst he
    by_cases hq : 30 < len
    ·
     as_aux_lemma =>
     go_wp2_with (go_at_call 25; refine (hwk _ hbel).mono ?_; rintro e w9 ⟨rfl, hb9⟩)
     go_ret
     exact ⟨rfl, bnext hbel hb9⟩
    ·
     as_aux_lemma =>
     go_wp2_with (go_at_call 25; refine (hwk _ hbel).mono ?_; rintro e w9 ⟨rfl, hb9⟩)
     go_ret
     exact ⟨rfl, bnext hbel hb9⟩
end Go.Proofs.YtbkaiifplahhpaaGreatDoor
