/-
  A pack of walks and facts: TD, TG, SJa, SPa.
-/
import Derived.Test.YtbkaiifplahhpaaGreatDoorPE12
import Derived.Test.YtbkaiifplahhpaaGreatDoorPE15
import Derived.Test.YtbkaiifplahhpaaGreatDoorPE16
import Derived.Test.YtbkaiifplahhpaaGreatDoorPE18
import Derived.Test.YtbkaiifplahhpaaGreatDoorPE19
import Derived.Test.YtbkaiifplahhpaaGreatDoorPE20
set_option maxRecDepth 100000
set_option maxHeartbeats 40000000
set_option linter.unusedVariables false
set_option linter.unusedSimpArgs false
namespace Go.Proofs.YtbkaiifplahhpaaGreatDoor
open Go.RowKit
theorem smay_bad1 (n1 n2 : Bool) (o1 p1 o2 p2 : Option Addr) (l1 c1 m1 k1 l2 c2 m2 k2 : Nat) (x1 d1 : List Int) (w : World) (hx1 : RowAt w .u64 o1 l1 c1 x1) (wx1 : Wd 18446744073709551616 x1) (hd1 : RowAt w .u64 p1 m1 k1 d1) (wd1 : Wd 18446744073709551616 d1) (hl1 : l1 ≤ 4) (hm1 : m1 ≤ 4) (h1 : mayR n1 x1 d1 = false) :
  Calls Tryz.prog 6 #[.agg #[.bool n1, .slice o1 l1 c1, .slice p1 m1 k1, .bool n2, .slice o2 l2 c2, .slice p2 m2 k2]] w fun e w' => e = .returned (.bool false) ∧ Below w.heap.size w w' := by
 obtain ⟨W, hW, hsz, hbW, hA⟩ := enter1 w [.bool n1, .slice o1 l1 c1, .slice p1 m1 k1, .bool n2, .slice o2 l2 c2, .slice p2 m2 k2] 30
 have HX : Hid (RowAt W .u64 o1 l1 c1 x1 ∧ RowAt W .u64 p1 m1 k1 d1) := ⟨hx1.later hbW, hd1.later hbW⟩
 have HM : Hid (mayR n1 x1 d1 = false) := h1
 clear hx1 hd1 h1
 go_enter Tryz.func6, Tryz.ntmps6
 go_wp2_with (go_at_call 33; rw [← hW]; refine (qmay_any n1 o1 p1 l1 c1 m1 k1 x1 d1 _ HX.out.1 wx1 HX.out.2 wd1 (by omega) (by omega) false HM.out).mono ?_; rintro e w1 ⟨rfl, hb1⟩)
 go_ret
 exact ⟨rfl, bnext hbW hb1⟩
theorem smay_bad2 (n1 n2 : Bool) (o1 p1 o2 p2 : Option Addr) (l1 c1 m1 k1 l2 c2 m2 k2 : Nat) (x1 d1 x2 d2 : List Int) (w : World) (hx1 : RowAt w .u64 o1 l1 c1 x1) (wx1 : Wd 18446744073709551616 x1) (hd1 : RowAt w .u64 p1 m1 k1 d1) (wd1 : Wd 18446744073709551616 d1) (hx2 : RowAt w .u64 o2 l2 c2 x2) (wx2 : Wd 18446744073709551616 x2) (hd2 : RowAt w .u64 p2 m2 k2 d2) (wd2 : Wd 18446744073709551616 d2) (hl1 : l1 ≤ 4) (hm1 : m1 ≤ 4) (hl2 : l2 ≤ 4) (hm2 : m2 ≤ 4) (h1 : mayR n1 x1 d1 = true) (h2 : mayR n2 x2 d2 = false) :
  Calls Tryz.prog 6 #[.agg #[.bool n1, .slice o1 l1 c1, .slice p1 m1 k1, .bool n2, .slice o2 l2 c2, .slice p2 m2 k2]] w fun e w' => e = .returned (.bool false) ∧ Below w.heap.size w w' := by
 obtain ⟨W, hW, hsz, hbW, hA⟩ := enter1 w [.bool n1, .slice o1 l1 c1, .slice p1 m1 k1, .bool n2, .slice o2 l2 c2, .slice p2 m2 k2] 30
 have HX : Hid ((RowAt W .u64 o1 l1 c1 x1 ∧ RowAt W .u64 p1 m1 k1 d1) ∧ (RowAt W .u64 o2 l2 c2 x2 ∧ RowAt W .u64 p2 m2 k2 d2)) := ⟨⟨hx1.later hbW, hd1.later hbW⟩, ⟨hx2.later hbW, hd2.later hbW⟩⟩
 have HM : Hid (mayR n1 x1 d1 = true ∧ mayR n2 x2 d2 = false) := ⟨h1, h2⟩
 clear hx1 hd1 h1 hx2 hd2 h2
 go_enter Tryz.func6, Tryz.ntmps6
 go_wp2_with (first
  | (go_at_call 33; have _t := hb1; refine (qmay_any n2 o2 p2 l2 c2 m2 k2 x2 d2 _ (HX.out.2.1.later hb1) wx2 (HX.out.2.2.later hb1) wd2 (by omega) (by omega) false HM.out.2).mono ?_; rintro e w2 ⟨rfl, hb2⟩)
  | (go_at_call 33; rw [← hW]; refine (qmay_any n1 o1 p1 l1 c1 m1 k1 x1 d1 _ HX.out.1.1 wx1 HX.out.1.2 wd1 (by omega) (by omega) true HM.out.1).mono ?_; rintro e w1 ⟨rfl, hb1⟩; have ub := hA.later hb1 (by omega); have u0 := ub.1 0 _ rfl; have u1 := ub.1 1 _ rfl; have u2 := ub.1 2 _ rfl; have u3 := ub.1 3 _ rfl; have u4 := ub.1 4 _ rfl; have u5 := ub.1 5 _ rfl; clear ub))
 go_ret
 exact ⟨rfl, bnext hbW (bnext hb1 hb2)⟩
theorem smay_good (n1 n2 : Bool) (o1 p1 o2 p2 : Option Addr) (l1 c1 m1 k1 l2 c2 m2 k2 : Nat) (x1 d1 x2 d2 : List Int) (w : World) (hx1 : RowAt w .u64 o1 l1 c1 x1) (wx1 : Wd 18446744073709551616 x1) (hd1 : RowAt w .u64 p1 m1 k1 d1) (wd1 : Wd 18446744073709551616 d1) (hx2 : RowAt w .u64 o2 l2 c2 x2) (wx2 : Wd 18446744073709551616 x2) (hd2 : RowAt w .u64 p2 m2 k2 d2) (wd2 : Wd 18446744073709551616 d2) (hl1 : l1 ≤ 4) (hm1 : m1 ≤ 4) (hl2 : l2 ≤ 4) (hm2 : m2 ≤ 4) (h1 : mayR n1 x1 d1 = true) (h2 : mayR n2 x2 d2 = true) (a b : Rat) (hx : RatAt w n1 o1 l1 c1 p1 m1 k1 a) (hy : RatAt w n2 o2 l2 c2 p2 m2 k2 b) (ha : Sz a 4) (hb : Sz b 4) (r : Bool) (hr : decide (cmpQ a b ≤ 0) = r) :
  Calls Tryz.prog 6 #[.agg #[.bool n1, .slice o1 l1 c1, .slice p1 m1 k1, .bool n2, .slice o2 l2 c2, .slice p2 m2 k2]] w fun e w' => e = .returned (.bool r) ∧ Below w.heap.size w w' := by
 obtain ⟨W, hW, hsz, hbW, hA⟩ := enter1 w [.bool n1, .slice o1 l1 c1, .slice p1 m1 k1, .bool n2, .slice o2 l2 c2, .slice p2 m2 k2] 30
 have HX : Hid (((RowAt W .u64 o1 l1 c1 x1 ∧ RowAt W .u64 p1 m1 k1 d1) ∧ (RowAt W .u64 o2 l2 c2 x2 ∧ RowAt W .u64 p2 m2 k2 d2)) ∧ RatAt W n1 o1 l1 c1 p1 m1 k1 a ∧ RatAt W n2 o2 l2 c2 p2 m2 k2 b) := ⟨⟨⟨hx1.later hbW, hd1.later hbW⟩, ⟨hx2.later hbW, hd2.later hbW⟩⟩, hx.later hbW, hy.later hbW⟩
 have HM : Hid (mayR n1 x1 d1 = true ∧ mayR n2 x2 d2 = true) := ⟨h1, h2⟩
 obtain ⟨c, hc1⟩ : ∃ c, cmpQ a b = c := ⟨_, rfl⟩
 have HCC : Hid (cmpQ a b = c ∧ Sz a 1000 ∧ Sz b 1000) := ⟨hc1, ha.mono (by decide), hb.mono (by decide)⟩
 rw [hc1] at hr
 have HR : Hid (decide (c ≤ 0) = r) := hr
 clear hx1 hd1 h1 hx2 hd2 h2 hx hy ha hb hc1 hr
 go_enter Tryz.func6, Tryz.ntmps6
 go_wp2_with (first
  | (go_at_call 33; have _t := hb1; refine (qmay_any n2 o2 p2 l2 c2 m2 k2 x2 d2 _ (HX.out.1.2.1.later hb1) wx2 (HX.out.1.2.2.later hb1) wd2 (by omega) (by omega) true HM.out.2).mono ?_; rintro e w2 ⟨rfl, hb2'⟩; have hb2 := bnext hb1 hb2'; clear hb2' u0 u1 u2 u3 u4 u5 hb1; have ub := hA.later hb2 (by omega); have u0 := ub.1 0 _ rfl; have u1 := ub.1 1 _ rfl; have u2 := ub.1 2 _ rfl; have u3 := ub.1 3 _ rfl; have u4 := ub.1 4 _ rfl; have u5 := ub.1 5 _ rfl; clear ub)
  | (go_at_call 33; rw [← hW]; refine (qmay_any n1 o1 p1 l1 c1 m1 k1 x1 d1 _ HX.out.1.1.1 wx1 HX.out.1.1.2 wd1 (by omega) (by omega) true HM.out.1).mono ?_; rintro e w1 ⟨rfl, hb1⟩; have ub := hA.later hb1 (by omega); have u0 := ub.1 0 _ rfl; have u1 := ub.1 1 _ rfl; have u2 := ub.1 2 _ rfl; have u3 := ub.1 3 _ rfl; have u4 := ub.1 4 _ rfl; have u5 := ub.1 5 _ rfl; clear ub)
  | (go_at_call 34; refine (qcmp_any n1 n2 o1 p1 o2 p2 l1 c1 m1 k1 l2 c2 m2 k2 a b _ (HX.out.2.1.later hb2) (HX.out.2.2.later hb2) HCC.out.2.1 HCC.out.2.2 c HCC.out.1).mono ?_; rintro e w3 ⟨rfl, hb3⟩))
 go_ret
 exact ⟨ret_bool HR.out, bnext hbW (bnext hb2 hb3)⟩
theorem RatAt.sz {w : World} {n : Bool} {o p : Option Addr} {l c m k K : Nat} {a : Rat} (h : RatAt w n o l c p m k a) (hl : l ≤ K) (hm : m ≤ K) : Sz a K := ⟨by rw [← h.num.row.hlen]; exact hl, by rw [← h.den.hlen]; exact hm⟩
theorem smay_is (n1 n2 : Bool) (o1 p1 o2 p2 : Option Addr) (l1 c1 m1 k1 l2 c2 m2 k2 : Nat) (x1 d1 x2 d2 : List Int) (w : World) (hx1 : RowAt w .u64 o1 l1 c1 x1) (wx1 : Wd 18446744073709551616 x1) (hd1 : RowAt w .u64 p1 m1 k1 d1) (wd1 : Wd 18446744073709551616 d1) (hx2 : RowAt w .u64 o2 l2 c2 x2) (wx2 : Wd 18446744073709551616 x2) (hd2 : RowAt w .u64 p2 m2 k2 d2) (wd2 : Wd 18446744073709551616 d2) (hl1 : l1 ≤ 4) (hm1 : m1 ≤ 4) (hl2 : l2 ≤ 4) (hm2 : m2 ≤ 4) :
  ∃ r : Bool, (∀ X, Below w.heap.size w X → Calls Tryz.prog 6 #[.agg #[.bool n1, .slice o1 l1 c1, .slice p1 m1 k1, .bool n2, .slice o2 l2 c2, .slice p2 m2 k2]] X fun e w' => e = .returned (.bool r) ∧ Below X.heap.size X w') ∧ (r = true → ∃ a b : Rat, RatAt w n1 o1 l1 c1 p1 m1 k1 a ∧ RatAt w n2 o2 l2 c2 p2 m2 k2 b ∧ Sz a 4 ∧ Sz b 4 ∧ cmpQ a b ≤ 0) := by
 cases h1 : mayR n1 x1 d1
 ·
  exact ⟨false, fun X h => smay_bad1 n1 n2 o1 p1 o2 p2 l1 c1 m1 k1 l2 c2 m2 k2 x1 d1 X (hx1.later h) wx1 (hd1.later h) wd1 hl1 hm1 h1, fun e => by cases e⟩
 ·
  cases h2 : mayR n2 x2 d2
  ·
   exact ⟨false, fun X h => smay_bad2 n1 n2 o1 p1 o2 p2 l1 c1 m1 k1 l2 c2 m2 k2 x1 d1 x2 d2 X (hx1.later h) wx1 (hd1.later h) wd1 (hx2.later h) wx2 (hd2.later h) wd2 hl1 hm1 hl2 hm2 h1 h2, fun e => by cases e⟩
  ·
   obtain ⟨a, ha, _⟩ := rat_of_may hx1 wx1 hd1 wd1 h1
   obtain ⟨b, hb, _⟩ := rat_of_may hx2 wx2 hd2 wd2 h2
   exact ⟨decide (cmpQ a b ≤ 0), fun X h => smay_good n1 n2 o1 p1 o2 p2 l1 c1 m1 k1 l2 c2 m2 k2 x1 d1 x2 d2 X (hx1.later h) wx1 (hd1.later h) wd1 (hx2.later h) wx2 (hd2.later h) wd2 hl1 hm1 hl2 hm2 h1 h2 a b (ha.later h) (hb.later h) (ha.sz hl1 hm1) (hb.sz hl2 hm2) _ rfl, fun e => ⟨a, b, ha, hb, ha.sz hl1 hm1, hb.sz hl2 hm2, of_decide_eq_true e⟩⟩
theorem eqspan_same (n1 n2 n3 n4 : Bool) (o1 p1 o2 p2 o3 p3 o4 p4 : Option Addr) (l1 c1 m1 k1 l2 c2 m2 k2 l3 c3 m3 k3 l4 c4 m4 k4 : Nat) (a b : Rat) (w : World) (hx : RatAt w n1 o1 l1 c1 p1 m1 k1 a) (hy : RatAt w n2 o2 l2 c2 p2 m2 k2 b) (hx' : RatAt w n3 o3 l3 c3 p3 m3 k3 a) (hy' : RatAt w n4 o4 l4 c4 p4 m4 k4 b) (ha : Sz a 100000) (hb : Sz b 100000) :
  Calls Tryz.prog 44 #[.agg #[.bool n1, .slice o1 l1 c1, .slice p1 m1 k1, .bool n2, .slice o2 l2 c2, .slice p2 m2 k2], .agg #[.bool n3, .slice o3 l3 c3, .slice p3 m3 k3, .bool n4, .slice o4 l4 c4, .slice p4 m4 k4]] w fun e w' => e = .returned (.bool true) ∧ Below w.heap.size w w' := by
 obtain ⟨W, hW, hsz, hbW, hA, hB⟩ := enter2 w [.bool n1, .slice o1 l1 c1, .slice p1 m1 k1, .bool n2, .slice o2 l2 c2, .slice p2 m2 k2] [.bool n3, .slice o3 l3 c3, .slice p3 m3 k3, .bool n4, .slice o4 l4 c4, .slice p4 m4 k4] 30 30
 have HX : Hid ((RatAt W n1 o1 l1 c1 p1 m1 k1 a ∧ RatAt W n3 o3 l3 c3 p3 m3 k3 a) ∧ (RatAt W n2 o2 l2 c2 p2 m2 k2 b ∧ RatAt W n4 o4 l4 c4 p4 m4 k4 b)) := ⟨⟨hx.later hbW, hx'.later hbW⟩, ⟨hy.later hbW, hy'.later hbW⟩⟩
 have hl1 : l1 ≤ 100000 := (hx.len ha).1
 have hm1 : m1 ≤ 100000 := (hx.len ha).2
 have hl2 : l2 ≤ 100000 := (hy.len hb).1
 have hm2 : m2 ≤ 100000 := (hy.len hb).2
 clear hx hy hx' hy' ha hb
 go_enter Tryz.func44, Tryz.ntmps44
 go_wp2_with (first
  | (go_at_call 60; have _t := hb1; refine (eqrat_same n2 n4 o2 p2 o4 p4 l2 c2 m2 k2 l4 c4 m4 k4 b _ (HX.out.2.1.later hb1) (HX.out.2.2.later hb1) (by omega) (by omega)).mono ?_; rintro e w2 ⟨rfl, hb2⟩)
  | (go_at_call 60; rw [← hW]; refine (eqrat_same n1 n3 o1 p1 o3 p3 l1 c1 m1 k1 l3 c3 m3 k3 a _ HX.out.1.1 HX.out.1.2 (by omega) (by omega)).mono ?_; rintro e w1 ⟨rfl, hb1⟩; have ub := hA.later hb1 (by omega); have u0 := ub.1 0 _ rfl; have u1 := ub.1 1 _ rfl; have u2 := ub.1 2 _ rfl; have u3 := ub.1 3 _ rfl; have u4 := ub.1 4 _ rfl; have u5 := ub.1 5 _ rfl; clear ub; have qb := hB.later hb1 (by omega); have q0 := qb.1 0 _ rfl; have q1 := qb.1 1 _ rfl; have q2 := qb.1 2 _ rfl; have q3 := qb.1 3 _ rfl; have q4 := qb.1 4 _ rfl; have q5 := qb.1 5 _ rfl; clear qb))
 go_ret
 exact ⟨rfl, bnext hbW (bnext hb1 hb2)⟩
theorem num3_any (n : Int) (w : World) : Calls Tryz.prog 14 #[.int .i64 n] w fun e w' => e = .returned (.int .i64 n) ∧ w' = w := by
 go_enter Tryz.func14, Tryz.ntmps14
 go_wp2
 go_ret
 exact ⟨rfl, rfl⟩
theorem heavyS_any (n1 n2 n3 n4 n5 : Bool) (o1 p1 o2 p2 o3 p3 o4 p4 o5 p5 : Option Addr) (l1 c1 m1 k1 l2 c2 m2 k2 l3 c3 m3 k3 l4 c4 m4 k4 l5 c5 m5 k5 : Nat) (N : Int) (w : World) (r : Bool) (hr : (((((decide ((4 : Int) < (l1 : Int)) || decide ((4 : Int) < (m1 : Int))) || (decide ((4 : Int) < (l2 : Int)) || decide ((4 : Int) < (m2 : Int)))) || (decide ((4 : Int) < (l3 : Int)) || decide ((4 : Int) < (m3 : Int)))) || (decide ((4 : Int) < (l4 : Int)) || decide ((4 : Int) < (m4 : Int)))) || (decide ((4 : Int) < (l5 : Int)) || decide ((4 : Int) < (m5 : Int)))) = r) :
  Calls Tryz.prog 5 #[.agg #[.bool n1, .slice o1 l1 c1, .slice p1 m1 k1, .bool n2, .slice o2 l2 c2, .slice p2 m2 k2, .bool n3, .slice o3 l3 c3, .slice p3 m3 k3, .bool n4, .slice o4 l4 c4, .slice p4 m4 k4, .bool n5, .slice o5 l5 c5, .slice p5 m5 k5, .int .i64 N]] w fun e w' => e = .returned (.bool r) ∧ Below w.heap.size w w' := by
 obtain ⟨W, hW, hsz, hbW, hA⟩ := enter1 w [.bool n1, .slice o1 l1 c1, .slice p1 m1 k1, .bool n2, .slice o2 l2 c2, .slice p2 m2 k2, .bool n3, .slice o3 l3 c3, .slice p3 m3 k3, .bool n4, .slice o4 l4 c4, .slice p4 m4 k4, .bool n5, .slice o5 l5 c5, .slice p5 m5 k5, .int .i64 N] 32
 cases h1 : (decide ((4 : Int) < (l1 : Int)) || decide ((4 : Int) < (m1 : Int)))
 rotate_left
 ·
  obtain rfl : r = true := by rw [← hr]; simp only [h1, Bool.false_or, Bool.true_or]
  have H1 : Hid ((decide ((4 : Int) < (l1 : Int)) || decide ((4 : Int) < (m1 : Int))) = true) := h1
  clear hr h1
  go_enter Tryz.func5, Tryz.ntmps5
  go_wp2_with (first
   | (go_at_call 32; rw [← hW]; refine (longRat_any n1 o1 p1 l1 c1 m1 k1 4 _ true H1.out).mono ?_; rintro e w1 ⟨rfl, hb1⟩))
  go_ret
  exact ⟨rfl, bnext hbW hb1⟩
 cases h2 : (decide ((4 : Int) < (l2 : Int)) || decide ((4 : Int) < (m2 : Int)))
 rotate_left
 ·
  obtain rfl : r = true := by rw [← hr]; simp only [h1, h2, Bool.false_or, Bool.true_or]
  have H1 : Hid ((decide ((4 : Int) < (l1 : Int)) || decide ((4 : Int) < (m1 : Int))) = false) := h1
  have H2 : Hid ((decide ((4 : Int) < (l2 : Int)) || decide ((4 : Int) < (m2 : Int))) = true) := h2
  clear hr h1 h2
  go_enter Tryz.func5, Tryz.ntmps5
  go_wp2_with (first
   | (go_at_call 32; have _t := hb1; refine (longRat_any n2 o2 p2 l2 c2 m2 k2 4 _ true H2.out).mono ?_; rintro e w2 ⟨rfl, hb2'⟩; have hb2 := bnext hb1 hb2'; clear hb2' hb1 u3 u4 u5)
   | (go_at_call 32; rw [← hW]; refine (longRat_any n1 o1 p1 l1 c1 m1 k1 4 _ false H1.out).mono ?_; rintro e w1 ⟨rfl, hb1⟩; have ub := hA.later hb1 (by omega); have u3 := ub.1 3 _ rfl; have u4 := ub.1 4 _ rfl; have u5 := ub.1 5 _ rfl; clear ub))
  go_ret
  exact ⟨rfl, bnext hbW hb2⟩
 cases h3 : (decide ((4 : Int) < (l3 : Int)) || decide ((4 : Int) < (m3 : Int)))
 rotate_left
 ·
  obtain rfl : r = true := by rw [← hr]; simp only [h1, h2, h3, Bool.false_or, Bool.true_or]
  have H1 : Hid ((decide ((4 : Int) < (l1 : Int)) || decide ((4 : Int) < (m1 : Int))) = false) := h1
  have H2 : Hid ((decide ((4 : Int) < (l2 : Int)) || decide ((4 : Int) < (m2 : Int))) = false) := h2
  have H3 : Hid ((decide ((4 : Int) < (l3 : Int)) || decide ((4 : Int) < (m3 : Int))) = true) := h3
  clear hr h1 h2 h3
  go_enter Tryz.func5, Tryz.ntmps5
  go_wp2_with (first
   | (go_at_call 32; have _t := hb2; refine (longRat_any n3 o3 p3 l3 c3 m3 k3 4 _ true H3.out).mono ?_; rintro e w3 ⟨rfl, hb3'⟩; have hb3 := bnext hb2 hb3'; clear hb3' hb2 u6 u7 u8)
   | (go_at_call 32; have _t := hb1; refine (longRat_any n2 o2 p2 l2 c2 m2 k2 4 _ false H2.out).mono ?_; rintro e w2 ⟨rfl, hb2'⟩; have hb2 := bnext hb1 hb2'; clear hb2' hb1 u3 u4 u5; have ub := hA.later hb2 (by omega); have u6 := ub.1 6 _ rfl; have u7 := ub.1 7 _ rfl; have u8 := ub.1 8 _ rfl; clear ub)
   | (go_at_call 32; rw [← hW]; refine (longRat_any n1 o1 p1 l1 c1 m1 k1 4 _ false H1.out).mono ?_; rintro e w1 ⟨rfl, hb1⟩; have ub := hA.later hb1 (by omega); have u3 := ub.1 3 _ rfl; have u4 := ub.1 4 _ rfl; have u5 := ub.1 5 _ rfl; clear ub))
  go_ret
  exact ⟨rfl, bnext hbW hb3⟩
 cases h4 : (decide ((4 : Int) < (l4 : Int)) || decide ((4 : Int) < (m4 : Int)))
 rotate_left
 ·
  obtain rfl : r = true := by rw [← hr]; simp only [h1, h2, h3, h4, Bool.false_or, Bool.true_or]
  have H1 : Hid ((decide ((4 : Int) < (l1 : Int)) || decide ((4 : Int) < (m1 : Int))) = false) := h1
  have H2 : Hid ((decide ((4 : Int) < (l2 : Int)) || decide ((4 : Int) < (m2 : Int))) = false) := h2
  have H3 : Hid ((decide ((4 : Int) < (l3 : Int)) || decide ((4 : Int) < (m3 : Int))) = false) := h3
  have H4 : Hid ((decide ((4 : Int) < (l4 : Int)) || decide ((4 : Int) < (m4 : Int))) = true) := h4
  clear hr h1 h2 h3 h4
  go_enter Tryz.func5, Tryz.ntmps5
  go_wp2_with (first
   | (go_at_call 32; have _t := hb3; refine (longRat_any n4 o4 p4 l4 c4 m4 k4 4 _ true H4.out).mono ?_; rintro e w4 ⟨rfl, hb4'⟩; have hb4 := bnext hb3 hb4'; clear hb4' hb3 u9 u10 u11)
   | (go_at_call 32; have _t := hb2; refine (longRat_any n3 o3 p3 l3 c3 m3 k3 4 _ false H3.out).mono ?_; rintro e w3 ⟨rfl, hb3'⟩; have hb3 := bnext hb2 hb3'; clear hb3' hb2 u6 u7 u8; have ub := hA.later hb3 (by omega); have u9 := ub.1 9 _ rfl; have u10 := ub.1 10 _ rfl; have u11 := ub.1 11 _ rfl; clear ub)
   | (go_at_call 32; have _t := hb1; refine (longRat_any n2 o2 p2 l2 c2 m2 k2 4 _ false H2.out).mono ?_; rintro e w2 ⟨rfl, hb2'⟩; have hb2 := bnext hb1 hb2'; clear hb2' hb1 u3 u4 u5; have ub := hA.later hb2 (by omega); have u6 := ub.1 6 _ rfl; have u7 := ub.1 7 _ rfl; have u8 := ub.1 8 _ rfl; clear ub)
   | (go_at_call 32; rw [← hW]; refine (longRat_any n1 o1 p1 l1 c1 m1 k1 4 _ false H1.out).mono ?_; rintro e w1 ⟨rfl, hb1⟩; have ub := hA.later hb1 (by omega); have u3 := ub.1 3 _ rfl; have u4 := ub.1 4 _ rfl; have u5 := ub.1 5 _ rfl; clear ub))
  go_ret
  exact ⟨rfl, bnext hbW hb4⟩
 have H5 : Hid ((decide ((4 : Int) < (l5 : Int)) || decide ((4 : Int) < (m5 : Int))) = r) := by show _ = _; rw [← hr]; simp only [h1, h2, h3, h4, Bool.false_or]
 have H1 : Hid ((decide ((4 : Int) < (l1 : Int)) || decide ((4 : Int) < (m1 : Int))) = false) := h1
 have H2 : Hid ((decide ((4 : Int) < (l2 : Int)) || decide ((4 : Int) < (m2 : Int))) = false) := h2
 have H3 : Hid ((decide ((4 : Int) < (l3 : Int)) || decide ((4 : Int) < (m3 : Int))) = false) := h3
 have H4 : Hid ((decide ((4 : Int) < (l4 : Int)) || decide ((4 : Int) < (m4 : Int))) = false) := h4
 clear hr h1 h2 h3 h4
 go_enter Tryz.func5, Tryz.ntmps5
 go_wp2_with (first
  | (go_at_call 32; have _t := hb4; refine (longRat_any n5 o5 p5 l5 c5 m5 k5 4 _ r H5.out).mono ?_; rintro e w5 ⟨rfl, hb5'⟩; have hb5 := bnext hb4 hb5'; clear hb5' hb4 u12 u13 u14)
  | (go_at_call 32; have _t := hb3; refine (longRat_any n4 o4 p4 l4 c4 m4 k4 4 _ false H4.out).mono ?_; rintro e w4 ⟨rfl, hb4'⟩; have hb4 := bnext hb3 hb4'; clear hb4' hb3 u9 u10 u11; have ub := hA.later hb4 (by omega); have u12 := ub.1 12 _ rfl; have u13 := ub.1 13 _ rfl; have u14 := ub.1 14 _ rfl; clear ub)
  | (go_at_call 32; have _t := hb2; refine (longRat_any n3 o3 p3 l3 c3 m3 k3 4 _ false H3.out).mono ?_; rintro e w3 ⟨rfl, hb3'⟩; have hb3 := bnext hb2 hb3'; clear hb3' hb2 u6 u7 u8; have ub := hA.later hb3 (by omega); have u9 := ub.1 9 _ rfl; have u10 := ub.1 10 _ rfl; have u11 := ub.1 11 _ rfl; clear ub)
  | (go_at_call 32; have _t := hb1; refine (longRat_any n2 o2 p2 l2 c2 m2 k2 4 _ false H2.out).mono ?_; rintro e w2 ⟨rfl, hb2'⟩; have hb2 := bnext hb1 hb2'; clear hb2' hb1 u3 u4 u5; have ub := hA.later hb2 (by omega); have u6 := ub.1 6 _ rfl; have u7 := ub.1 7 _ rfl; have u8 := ub.1 8 _ rfl; clear ub)
  | (go_at_call 32; rw [← hW]; refine (longRat_any n1 o1 p1 l1 c1 m1 k1 4 _ false H1.out).mono ?_; rintro e w1 ⟨rfl, hb1⟩; have ub := hA.later hb1 (by omega); have u3 := ub.1 3 _ rfl; have u4 := ub.1 4 _ rfl; have u5 := ub.1 5 _ rfl; clear ub))
 go_ret
 exact ⟨rfl, bnext hbW hb5⟩
end Go.Proofs.YtbkaiifplahhpaaGreatDoor
namespace Go.Proofs.YtbkaiifplahhpaaGreatDoor
open Go.RowKit
theorem wake_lo : loK (prods ((-1 : Int) : Rat) ((2 : Int) : Rat) ((3 : Int) : Rat) ((4 : Int) : Rat)) 4 = ((-4 : Int) : Rat) := by decide +kernel
theorem wake_hi : hiK (prods ((-1 : Int) : Rat) ((2 : Int) : Rat) ((3 : Int) : Rat) ((4 : Int) : Rat)) 4 = ((8 : Int) : Rat) := by decide +kernel
theorem wake_sz : Sz ((-1 : Int) : Rat) 1000 ∧ Sz ((2 : Int) : Rat) 1000 ∧ Sz ((3 : Int) : Rat) 1000 ∧ Sz ((4 : Int) : Rat) 1000 ∧ Sz ((-4 : Int) : Rat) 1000 ∧ Sz ((8 : Int) : Rat) 1000 := by unfold Sz; decide +kernel
theorem wake_le : cmpQ ((-1 : Int) : Rat) ((2 : Int) : Rat) ≤ 0 ∧ cmpQ ((3 : Int) : Rat) ((4 : Int) : Rat) ≤ 0 := by decide +kernel
theorem num3_bel (n : Int) (w : World) : Calls Tryz.prog 14 #[.int .i64 n] w fun e w' => e = .returned (.int .i64 n) ∧ Below w.heap.size w w' :=
 (num3_any n w).mono fun e w' ⟨h1, h2⟩ => ⟨h1, by rw [h2]; exact Below.refl _ _⟩
theorem wakes3_any (w : World) (hT0 : TabAt 0 Lib.deBruijn64tab w) : Calls Tryz.prog 25 #[] w fun e w' => e = .returned (.bool true) ∧ Below w.heap.size w w' := by
 have HT : Hid (TabAt 0 Lib.deBruijn64tab w) := hT0
 clear hT0
 go_enter Tryz.func25, Tryz.ntmps25
 go_upto_region 2 with (first
  | (go_at_call 39; have _t := H1; refine (qint_any 2 _ (by decide) (by decide)).mono ?_; rintro e y ⟨n2, o2, l2, c2, p2, m2, k2, rfl, hr, hb⟩; have H2 : Hid (RatAt y n1 o1 l1 c1 p1 m1 k1 ((-1 : Int) : Rat) ∧ RatAt y n2 o2 l2 c2 p2 m2 k2 ((2 : Int) : Rat) ∧ Below w.heap.size w y) := ⟨H1.out.1.later hb, hr, bnext H1.out.2 hb⟩; clear hr hb H1)
  | (go_at_call 39; refine (qint_any (-1) _ (by decide) (by decide)).mono ?_; rintro e y1 ⟨n1, o1, l1, c1, p1, m1, k1, rfl, hr, hb⟩; have H1 : Hid (RatAt y1 n1 o1 l1 c1 p1 m1 k1 ((-1 : Int) : Rat) ∧ Below w.heap.size w y1) := ⟨hr, hb⟩; clear hr hb))
 obtain ⟨r1, hr1⟩ : ∃ r, r = y.heap.size := ⟨_, rfl⟩
 have hst : Below y.heap.size y (y.alloc (.cells #[.bool n1, .slice o1 l1 c1, .slice p1 m1 k1, .bool n2, .slice o2 l2 c2, .slice p2 m2 k2] 30)) := (Below.refl _ _).alloc (Nat.le_refl _) _
 have HY : Hid (Bx (y.alloc (.cells #[.bool n1, .slice o1 l1 c1, .slice p1 m1 k1, .bool n2, .slice o2 l2 c2, .slice p2 m2 k2] 30)) r1 [.bool n1, .slice o1 l1 c1, .slice p1 m1 k1, .bool n2, .slice o2 l2 c2, .slice p2 m2 k2] ∧ RatAt (y.alloc (.cells #[.bool n1, .slice o1 l1 c1, .slice p1 m1 k1, .bool n2, .slice o2 l2 c2, .slice p2 m2 k2] 30)) n1 o1 l1 c1 p1 m1 k1 ((-1 : Int) : Rat) ∧ RatAt (y.alloc (.cells #[.bool n1, .slice o1 l1 c1, .slice p1 m1 k1, .bool n2, .slice o2 l2 c2, .slice p2 m2 k2] 30)) n2 o2 l2 c2 p2 m2 k2 ((2 : Int) : Rat) ∧ Below w.heap.size w (y.alloc (.cells #[.bool n1, .slice o1 l1 c1, .slice p1 m1 k1, .bool n2, .slice o2 l2 c2, .slice p2 m2 k2] 30))) := ⟨(by rw [hr1]; exact Bx.new _ _ _), H2.out.1.later hst, H2.out.2.1.later hst, bnext H2.out.2.2 hst⟩
 rw [← hr1]
 clear H2 hst hr1
 generalize y.alloc (.cells #[.bool n1, .slice o1 l1 c1, .slice p1 m1 k1, .bool n2, .slice o2 l2 c2, .slice p2 m2 k2] 30) = Y at *
 have hlt1 := HY.out.1.lt
 have KY : Hid (∀ w' : World, Below Y.heap.size Y w' → w'.cell? ⟨r1, 0, none⟩ = some (.bool n1) ∧ w'.cell? ⟨r1, 1, none⟩ = some (.slice o1 l1 c1) ∧ w'.cell? ⟨r1, 2, none⟩ = some (.slice p1 m1 k1) ∧ w'.cell? ⟨r1, 3, none⟩ = some (.bool n2) ∧ w'.cell? ⟨r1, 4, none⟩ = some (.slice o2 l2 c2) ∧ w'.cell? ⟨r1, 5, none⟩ = some (.slice p2 m2 k2)) := fun w' h => ⟨((HY.out.1).later h (by omega)).1 0 _ rfl, ((HY.out.1).later h (by omega)).1 1 _ rfl, ((HY.out.1).later h (by omega)).1 2 _ rfl, ((HY.out.1).later h (by omega)).1 3 _ rfl, ((HY.out.1).later h (by omega)).1 4 _ rfl, ((HY.out.1).later h (by omega)).1 5 _ rfl⟩
 go_cut [2, 3] (fun s2 s3 wx => ∃ r2 n5 o5 l5 c5 p5 m5 k5 n6 o6 l6 c6 p6 m6 k6, s2 = .pointer (some ⟨r2, 0, none⟩) ∧ s3 = .int .i64 0 ∧ Bx wx r2 [.bool n5, .slice o5 l5 c5, .slice p5 m5 k5, .bool n6, .slice o6 l6 c6, .slice p6 m6 k6] ∧ RatAt wx n5 o5 l5 c5 p5 m5 k5 ((-4 : Int) : Rat) ∧ RatAt wx n6 o6 l6 c6 p6 m6 k6 ((8 : Int) : Rat) ∧ Below w.heap.size w wx)
 case first =>
  refine wp_region_noPanic ?_
  have hbV : Below Y.heap.size Y Y.drew := ((Below.refl _ _)).drew
  refine wp_region_held_drew (S := fun w' => (w'.cell? ⟨r1, 0, none⟩ = some (.bool n1) ∧ w'.cell? ⟨r1, 1, none⟩ = some (.slice o1 l1 c1) ∧ w'.cell? ⟨r1, 2, none⟩ = some (.slice p1 m1 k1) ∧ w'.cell? ⟨r1, 3, none⟩ = some (.bool n2) ∧ w'.cell? ⟨r1, 4, none⟩ = some (.slice o2 l2 c2) ∧ w'.cell? ⟨r1, 5, none⟩ = some (.slice p2 m2 k2))) (by kernel_rfl) (by (try dsimp only); exact KY.out _ hbV) (fun hHeld => ?_)
  clear hHeld
  generalize Y.drew = V at *
  have hHeld : V.cell? ⟨r1, 0, none⟩ = some (.bool n1) ∧ V.cell? ⟨r1, 1, none⟩ = some (.slice o1 l1 c1) ∧ V.cell? ⟨r1, 2, none⟩ = some (.slice p1 m1 k1) ∧ V.cell? ⟨r1, 3, none⟩ = some (.bool n2) ∧ V.cell? ⟨r1, 4, none⟩ = some (.slice o2 l2 c2) ∧ V.cell? ⟨r1, 5, none⟩ = some (.slice p2 m2 k2) := KY.out _ hbV
  all_goals (
   refine wpAnyH_take (i := 0) (oi := Oper.mk (some 8) _ _ _ _ _) (v := ?_) rfl (by kernel_rfl) (by kernel_rfl) (by kernel_rfl) (fun _ _ _ h => h) (Or.inl ⟨by rfl, ?_⟩) (by assumption) ?_
   rotate_left
   ·
    (intro w hSw; (try dsimp only at hSw); go_simp <;> (try with_reducible rfl))
   (try simp only [Act.put, List.setIfInBounds_toArray, List.set_cons_zero, List.set_cons_succ]))
  all_goals repeat' (first
   | (have _g := FA; clear _g; refine wpAnyH_ready (rs := [1]) (by kernel_rfl) (by simp) ?_; refine (AllReadyH.cons (o := Oper.mk (some 9) _ _ _ _ _) rfl (fun K hK => ?_) AllReadyH.nil))
   | ((fail_if_success (have _g := FA)); refine wpAnyH_ready (rs := [1, 8]) (by kernel_rfl) (by simp) ?_; refine (AllReadyH.cons (o := Oper.mk (some 9) _ _ _ _ _) rfl (fun K hK => ?_) (AllReadyH.cons (o := Oper.mk (some 2) _ _ _ _ _) rfl (fun K hK => ?_) AllReadyH.nil)); rotate_left; (go_simp; clear hHeld; have hst : Below V.heap.size V (V.alloc (.cells #[.bool false, .slice none 0 0, .slice none 0 0, .bool false, .slice none 0 0, .slice none 0 0] 30)) := (Below.refl _ _).alloc (Nat.le_refl _) _; have FA : Hid (Bx (V.alloc (.cells #[.bool false, .slice none 0 0, .slice none 0 0, .bool false, .slice none 0 0, .slice none 0 0] 30)) V.heap.size [.bool false, .slice none 0 0, .slice none 0 0, .bool false, .slice none 0 0, .slice none 0 0]) := Bx.new _ _ _; obtain ⟨rA, hrA⟩ : ∃ r, r = V.heap.size := ⟨_, rfl⟩; have hzA : Y.heap.size ≤ rA := (by rw [hrA]; exact hbV.size); replace hbV : Below Y.heap.size Y (V.alloc (.cells #[.bool false, .slice none 0 0, .slice none 0 0, .bool false, .slice none 0 0, .slice none 0 0] 30)) := below_alloc hbV (Nat.le_refl _); clear hst; refine hK.out _ _ (by (try dsimp only); exact KY.out _ hbV) (fun hHeld => ?_); clear hK K hHeld; (try simp only [Act.put, List.setIfInBounds_toArray, List.set_cons_zero, List.set_cons_succ]); rw [← hrA] at FA ⊢; clear hrA; generalize V.alloc (.cells #[.bool false, .slice none 0 0, .slice none 0 0, .bool false, .slice none 0 0, .slice none 0 0] 30) = V at *; have hHeld : V.cell? ⟨r1, 0, none⟩ = some (.bool n1) ∧ V.cell? ⟨r1, 1, none⟩ = some (.slice o1 l1 c1) ∧ V.cell? ⟨r1, 2, none⟩ = some (.slice p1 m1 k1) ∧ V.cell? ⟨r1, 3, none⟩ = some (.bool n2) ∧ V.cell? ⟨r1, 4, none⟩ = some (.slice o2 l2 c2) ∧ V.cell? ⟨r1, 5, none⟩ = some (.slice p2 m2 k2) := KY.out _ hbV); rotate_left))
  all_goals (go_simp; (go_at_call 39; refine (qint_any 3 _ (by decide) (by decide)).mono ?_; rintro e V ⟨n3, o3, l3, c3, p3, m3, k3, rfl, hr, hb⟩; have H3 : Hid (RatAt V n3 o3 l3 c3 p3 m3 k3 ((3 : Int) : Rat)) := hr; clear hr; (try replace FA : Hid (Bx V rA [.bool false, .slice none 0 0, .slice none 0 0, .bool false, .slice none 0 0, .slice none 0 0]) := FA.out.later hb FA.out.lt); replace hbV : Below Y.heap.size Y V := bnext hbV hb; clear hb); (try go_wp2_with fail); clear hHeld; refine hK.out _ _ (by (try dsimp only); exact KY.out _ hbV) (fun hHeld => ?_); clear hK K; (try simp only [Act.put, List.setIfInBounds_toArray, List.set_cons_zero, List.set_cons_succ]))
  all_goals repeat' (first
   | (have _g := FA; clear _g; refine wpAnyH_ready (rs := [2]) (by kernel_rfl) (by simp) ?_; refine (AllReadyH.cons (o := Oper.mk (some 10) _ _ _ _ _) rfl (fun K hK => ?_) AllReadyH.nil))
   | ((fail_if_success (have _g := FA)); refine wpAnyH_ready (rs := [2, 8]) (by kernel_rfl) (by simp) ?_; refine (AllReadyH.cons (o := Oper.mk (some 10) _ _ _ _ _) rfl (fun K hK => ?_) (AllReadyH.cons (o := Oper.mk (some 2) _ _ _ _ _) rfl (fun K hK => ?_) AllReadyH.nil)); rotate_left; (go_simp; clear hHeld; have hst : Below V.heap.size V (V.alloc (.cells #[.bool false, .slice none 0 0, .slice none 0 0, .bool false, .slice none 0 0, .slice none 0 0] 30)) := (Below.refl _ _).alloc (Nat.le_refl _) _; have FA : Hid (Bx (V.alloc (.cells #[.bool false, .slice none 0 0, .slice none 0 0, .bool false, .slice none 0 0, .slice none 0 0] 30)) V.heap.size [.bool false, .slice none 0 0, .slice none 0 0, .bool false, .slice none 0 0, .slice none 0 0]) := Bx.new _ _ _; obtain ⟨rA, hrA⟩ : ∃ r, r = V.heap.size := ⟨_, rfl⟩; have hzA : Y.heap.size ≤ rA := (by rw [hrA]; exact hbV.size); replace H3 : Hid (RatAt (V.alloc (.cells #[.bool false, .slice none 0 0, .slice none 0 0, .bool false, .slice none 0 0, .slice none 0 0] 30)) n3 o3 l3 c3 p3 m3 k3 ((3 : Int) : Rat)) := H3.out.later hst; replace hbV : Below Y.heap.size Y (V.alloc (.cells #[.bool false, .slice none 0 0, .slice none 0 0, .bool false, .slice none 0 0, .slice none 0 0] 30)) := below_alloc hbV (Nat.le_refl _); clear hst; refine hK.out _ _ (by (try dsimp only); exact KY.out _ hbV) (fun hHeld => ?_); clear hK K hHeld; (try simp only [Act.put, List.setIfInBounds_toArray, List.set_cons_zero, List.set_cons_succ]); rw [← hrA] at FA ⊢; clear hrA; generalize V.alloc (.cells #[.bool false, .slice none 0 0, .slice none 0 0, .bool false, .slice none 0 0, .slice none 0 0] 30) = V at *; have hHeld : V.cell? ⟨r1, 0, none⟩ = some (.bool n1) ∧ V.cell? ⟨r1, 1, none⟩ = some (.slice o1 l1 c1) ∧ V.cell? ⟨r1, 2, none⟩ = some (.slice p1 m1 k1) ∧ V.cell? ⟨r1, 3, none⟩ = some (.bool n2) ∧ V.cell? ⟨r1, 4, none⟩ = some (.slice o2 l2 c2) ∧ V.cell? ⟨r1, 5, none⟩ = some (.slice p2 m2 k2) := KY.out _ hbV); rotate_left))
  all_goals (go_simp; (go_at_call 39; refine (qint_any 4 _ (by decide) (by decide)).mono ?_; rintro e V ⟨n4, o4, l4, c4, p4, m4, k4, rfl, hr, hb⟩; have H4 : Hid (RatAt V n4 o4 l4 c4 p4 m4 k4 ((4 : Int) : Rat)) := hr; clear hr; replace H3 : Hid (RatAt V n3 o3 l3 c3 p3 m3 k3 ((3 : Int) : Rat)) := H3.out.later hb; (try replace FA : Hid (Bx V rA [.bool false, .slice none 0 0, .slice none 0 0, .bool false, .slice none 0 0, .slice none 0 0]) := FA.out.later hb FA.out.lt); replace hbV : Below Y.heap.size Y V := bnext hbV hb; clear hb); (try go_wp2_with fail); clear hHeld; refine hK.out _ _ (by (try dsimp only); exact KY.out _ hbV) (fun hHeld => ?_); clear hK K; (try simp only [Act.put, List.setIfInBounds_toArray, List.set_cons_zero, List.set_cons_succ]))
  all_goals (
   refine wpAnyH_take (i := 3) (oi := Oper.mk (some 11) _ _ _ _ _) (v := ?_) rfl (by kernel_rfl) (by kernel_rfl) (by kernel_rfl) (fun _ _ _ h => h) (Or.inl ⟨by rfl, ?_⟩) (by assumption) ?_
   rotate_left
   ·
    (intro w hSw; (try dsimp only at hSw); go_simp <;> (try with_reducible rfl))
   (try simp only [Act.put, List.setIfInBounds_toArray, List.set_cons_zero, List.set_cons_succ]))
  all_goals repeat' (first
   | (have _g := FA; clear _g; refine wpAnyH_ready (rs := [4]) (by kernel_rfl) (by simp) ?_; refine (AllReadyH.cons (o := Oper.mk (some 12) _ _ _ _ _) rfl (fun K hK => ?_) AllReadyH.nil))
   | ((fail_if_success (have _g := FA)); refine wpAnyH_ready (rs := [4, 8]) (by kernel_rfl) (by simp) ?_; refine (AllReadyH.cons (o := Oper.mk (some 12) _ _ _ _ _) rfl (fun K hK => ?_) (AllReadyH.cons (o := Oper.mk (some 2) _ _ _ _ _) rfl (fun K hK => ?_) AllReadyH.nil)); rotate_left; (go_simp; clear hHeld; have hst : Below V.heap.size V (V.alloc (.cells #[.bool false, .slice none 0 0, .slice none 0 0, .bool false, .slice none 0 0, .slice none 0 0] 30)) := (Below.refl _ _).alloc (Nat.le_refl _) _; have FA : Hid (Bx (V.alloc (.cells #[.bool false, .slice none 0 0, .slice none 0 0, .bool false, .slice none 0 0, .slice none 0 0] 30)) V.heap.size [.bool false, .slice none 0 0, .slice none 0 0, .bool false, .slice none 0 0, .slice none 0 0]) := Bx.new _ _ _; obtain ⟨rA, hrA⟩ : ∃ r, r = V.heap.size := ⟨_, rfl⟩; have hzA : Y.heap.size ≤ rA := (by rw [hrA]; exact hbV.size); replace H3 : Hid (RatAt (V.alloc (.cells #[.bool false, .slice none 0 0, .slice none 0 0, .bool false, .slice none 0 0, .slice none 0 0] 30)) n3 o3 l3 c3 p3 m3 k3 ((3 : Int) : Rat)) := H3.out.later hst; replace H4 : Hid (RatAt (V.alloc (.cells #[.bool false, .slice none 0 0, .slice none 0 0, .bool false, .slice none 0 0, .slice none 0 0] 30)) n4 o4 l4 c4 p4 m4 k4 ((4 : Int) : Rat)) := H4.out.later hst; replace hbV : Below Y.heap.size Y (V.alloc (.cells #[.bool false, .slice none 0 0, .slice none 0 0, .bool false, .slice none 0 0, .slice none 0 0] 30)) := below_alloc hbV (Nat.le_refl _); clear hst; refine hK.out _ _ (by (try dsimp only); exact KY.out _ hbV) (fun hHeld => ?_); clear hK K hHeld; (try simp only [Act.put, List.setIfInBounds_toArray, List.set_cons_zero, List.set_cons_succ]); rw [← hrA] at FA ⊢; clear hrA; generalize V.alloc (.cells #[.bool false, .slice none 0 0, .slice none 0 0, .bool false, .slice none 0 0, .slice none 0 0] 30) = V at *; have hHeld : V.cell? ⟨r1, 0, none⟩ = some (.bool n1) ∧ V.cell? ⟨r1, 1, none⟩ = some (.slice o1 l1 c1) ∧ V.cell? ⟨r1, 2, none⟩ = some (.slice p1 m1 k1) ∧ V.cell? ⟨r1, 3, none⟩ = some (.bool n2) ∧ V.cell? ⟨r1, 4, none⟩ = some (.slice o2 l2 c2) ∧ V.cell? ⟨r1, 5, none⟩ = some (.slice p2 m2 k2) := KY.out _ hbV); rotate_left))
  all_goals (go_simp; (go_at_call 19; refine (smul_any n1 n2 n3 n4 o1 p1 o2 p2 o3 p3 o4 p4 l1 c1 m1 k1 l2 c2 m2 k2 l3 c3 m3 k3 l4 c4 m4 k4 _ _ _ _ _ (HY.out.2.1.later hbV) (HY.out.2.2.1.later hbV) H3.out H4.out wake_sz.1 wake_sz.2.1 wake_sz.2.2.1 wake_sz.2.2.2.1 wake_le.1 wake_le.2 (tab_later HT.out (bnext HY.out.2.2.2 hbV))).mono ?_; rintro e V ⟨n5, o5, l5, c5, p5, m5, k5, n6, o6, l6, c6, p6, m6, k6, rfl, hn⟩; have hb := hn.2.2.2; have H5 : Hid (RatAt V n5 o5 l5 c5 p5 m5 k5 ((-4 : Int) : Rat)) := (by have q := hn.lo; rw [wake_lo] at q; exact q); have H6 : Hid (RatAt V n6 o6 l6 c6 p6 m6 k6 ((8 : Int) : Rat)) := (by have q := hn.hi; rw [wake_hi] at q; exact q); clear hn; replace H3 : Hid (RatAt V n3 o3 l3 c3 p3 m3 k3 ((3 : Int) : Rat)) := H3.out.later hb; replace H4 : Hid (RatAt V n4 o4 l4 c4 p4 m4 k4 ((4 : Int) : Rat)) := H4.out.later hb; (try replace FA : Hid (Bx V rA [.bool false, .slice none 0 0, .slice none 0 0, .bool false, .slice none 0 0, .slice none 0 0]) := FA.out.later hb FA.out.lt); replace hbV : Below Y.heap.size Y V := bnext hbV hb; clear hb); (try go_wp2_with fail); clear hHeld; refine hK.out _ _ (by (try dsimp only); exact KY.out _ hbV) (fun hHeld => ?_); clear hK K; (try simp only [Act.put, List.setIfInBounds_toArray, List.set_cons_zero, List.set_cons_succ]))
  all_goals (
   refine wpAnyH_take (i := 5) (oi := Oper.mk (some 7) _ _ _ _ _) (v := ?_) rfl (by kernel_rfl) (by kernel_rfl) (by kernel_rfl) (fun _ _ _ h => h) (Or.inl ⟨by rfl, ?_⟩) (by assumption) ?_
   rotate_left
   ·
    (intro w hSw; (try dsimp only at hSw); go_simp <;> (try with_reducible rfl))
   (try simp only [Act.put, List.setIfInBounds_toArray, List.set_cons_zero, List.set_cons_succ]))
  all_goals (
   refine wpAnyH_take (i := 6) (oi := Oper.mk (some 13) _ _ _ _ _) (v := ?_) rfl (by kernel_rfl) (by kernel_rfl) (by kernel_rfl) (fun _ _ _ h => h) (Or.inl ⟨by rfl, ?_⟩) (by assumption) ?_
   rotate_left
   ·
    (intro w hSw; (try dsimp only at hSw); go_simp <;> (try with_reducible rfl))
   (try simp only [Act.put, List.setIfInBounds_toArray, List.set_cons_zero, List.set_cons_succ]))
  all_goals (
   refine wpAnyH_take (i := 7) (oi := Oper.mk (some 14) _ _ _ _ _) (v := ?_) rfl (by kernel_rfl) (by kernel_rfl) (by kernel_rfl) (fun _ _ _ h => h) (Or.inl ⟨by rfl, ?_⟩) (by assumption) ?_
   rotate_left
   ·
    (intro w hSw; (try dsimp only at hSw); go_simp <;> (try with_reducible rfl))
   (try simp only [Act.put, List.setIfInBounds_toArray, List.set_cons_zero, List.set_cons_succ]))
  all_goals repeat' (first
   | (have _g := FA; clear _g; refine wpAnyH_ready (rs := [9]) (by kernel_rfl) (by simp) ?_; refine (AllReadyH.cons (o := Oper.mk none _ _ _ _ _) rfl (fun K hK => ?_) AllReadyH.nil))
   | ((fail_if_success (have _g := FA)); refine wpAnyH_ready (rs := [8]) (by kernel_rfl) (by simp) ?_; refine (AllReadyH.cons (o := Oper.mk (some 2) _ _ _ _ _) rfl (fun K hK => ?_) AllReadyH.nil); (go_simp; clear hHeld; have hst : Below V.heap.size V (V.alloc (.cells #[.bool false, .slice none 0 0, .slice none 0 0, .bool false, .slice none 0 0, .slice none 0 0] 30)) := (Below.refl _ _).alloc (Nat.le_refl _) _; have FA : Hid (Bx (V.alloc (.cells #[.bool false, .slice none 0 0, .slice none 0 0, .bool false, .slice none 0 0, .slice none 0 0] 30)) V.heap.size [.bool false, .slice none 0 0, .slice none 0 0, .bool false, .slice none 0 0, .slice none 0 0]) := Bx.new _ _ _; obtain ⟨rA, hrA⟩ : ∃ r, r = V.heap.size := ⟨_, rfl⟩; have hzA : Y.heap.size ≤ rA := (by rw [hrA]; exact hbV.size); replace H3 : Hid (RatAt (V.alloc (.cells #[.bool false, .slice none 0 0, .slice none 0 0, .bool false, .slice none 0 0, .slice none 0 0] 30)) n3 o3 l3 c3 p3 m3 k3 ((3 : Int) : Rat)) := H3.out.later hst; replace H4 : Hid (RatAt (V.alloc (.cells #[.bool false, .slice none 0 0, .slice none 0 0, .bool false, .slice none 0 0, .slice none 0 0] 30)) n4 o4 l4 c4 p4 m4 k4 ((4 : Int) : Rat)) := H4.out.later hst; replace H5 : Hid (RatAt (V.alloc (.cells #[.bool false, .slice none 0 0, .slice none 0 0, .bool false, .slice none 0 0, .slice none 0 0] 30)) n5 o5 l5 c5 p5 m5 k5 ((-4 : Int) : Rat)) := H5.out.later hst; replace H6 : Hid (RatAt (V.alloc (.cells #[.bool false, .slice none 0 0, .slice none 0 0, .bool false, .slice none 0 0, .slice none 0 0] 30)) n6 o6 l6 c6 p6 m6 k6 ((8 : Int) : Rat)) := H6.out.later hst; replace hbV : Below Y.heap.size Y (V.alloc (.cells #[.bool false, .slice none 0 0, .slice none 0 0, .bool false, .slice none 0 0, .slice none 0 0] 30)) := below_alloc hbV (Nat.le_refl _); clear hst; refine hK.out _ _ (by (try dsimp only); exact KY.out _ hbV) (fun hHeld => ?_); clear hK K hHeld; (try simp only [Act.put, List.setIfInBounds_toArray, List.set_cons_zero, List.set_cons_succ]); rw [← hrA] at FA ⊢; clear hrA; generalize V.alloc (.cells #[.bool false, .slice none 0 0, .slice none 0 0, .bool false, .slice none 0 0, .slice none 0 0] 30) = V at *; have hHeld : V.cell? ⟨r1, 0, none⟩ = some (.bool n1) ∧ V.cell? ⟨r1, 1, none⟩ = some (.slice o1 l1 c1) ∧ V.cell? ⟨r1, 2, none⟩ = some (.slice p1 m1 k1) ∧ V.cell? ⟨r1, 3, none⟩ = some (.bool n2) ∧ V.cell? ⟨r1, 4, none⟩ = some (.slice o2 l2 c2) ∧ V.cell? ⟨r1, 5, none⟩ = some (.slice p2 m2 k2) := KY.out _ hbV)))
  all_goals (have bf := FA.out.2; have b0 := FA.out.1 0 _ rfl; have b1 := FA.out.1 1 _ rfl; have b2 := FA.out.1 2 _ rfl; have b3 := FA.out.1 3 _ rfl; have b4 := FA.out.1 4 _ rfl; have b5 := FA.out.1 5 _ rfl; go_simp; clear hHeld bf b0 b1 b2 b3 b4 b5; replace H3 : Hid (RatAt ((((((V.setCell ⟨rA, 0, none⟩ (.bool n5)).setCell ⟨rA, 1, none⟩ (.slice o5 l5 c5)).setCell ⟨rA, 2, none⟩ (.slice p5 m5 k5)).setCell ⟨rA, 3, none⟩ (.bool n6)).setCell ⟨rA, 4, none⟩ (.slice o6 l6 c6)).setCell ⟨rA, 5, none⟩ (.slice p6 m6 k6)) n3 o3 l3 c3 p3 m3 k3 ((3 : Int) : Rat)) := FA.out.rat (by simp [NoWord]) (ws := [.bool n5, .slice o5 l5 c5, .slice p5 m5 k5, .bool n6, .slice o6 l6 c6, .slice p6 m6 k6]) rfl H3.out; replace H4 : Hid (RatAt ((((((V.setCell ⟨rA, 0, none⟩ (.bool n5)).setCell ⟨rA, 1, none⟩ (.slice o5 l5 c5)).setCell ⟨rA, 2, none⟩ (.slice p5 m5 k5)).setCell ⟨rA, 3, none⟩ (.bool n6)).setCell ⟨rA, 4, none⟩ (.slice o6 l6 c6)).setCell ⟨rA, 5, none⟩ (.slice p6 m6 k6)) n4 o4 l4 c4 p4 m4 k4 ((4 : Int) : Rat)) := FA.out.rat (by simp [NoWord]) (ws := [.bool n5, .slice o5 l5 c5, .slice p5 m5 k5, .bool n6, .slice o6 l6 c6, .slice p6 m6 k6]) rfl H4.out; replace H5 : Hid (RatAt ((((((V.setCell ⟨rA, 0, none⟩ (.bool n5)).setCell ⟨rA, 1, none⟩ (.slice o5 l5 c5)).setCell ⟨rA, 2, none⟩ (.slice p5 m5 k5)).setCell ⟨rA, 3, none⟩ (.bool n6)).setCell ⟨rA, 4, none⟩ (.slice o6 l6 c6)).setCell ⟨rA, 5, none⟩ (.slice p6 m6 k6)) n5 o5 l5 c5 p5 m5 k5 ((-4 : Int) : Rat)) := FA.out.rat (by simp [NoWord]) (ws := [.bool n5, .slice o5 l5 c5, .slice p5 m5 k5, .bool n6, .slice o6 l6 c6, .slice p6 m6 k6]) rfl H5.out; replace H6 : Hid (RatAt ((((((V.setCell ⟨rA, 0, none⟩ (.bool n5)).setCell ⟨rA, 1, none⟩ (.slice o5 l5 c5)).setCell ⟨rA, 2, none⟩ (.slice p5 m5 k5)).setCell ⟨rA, 3, none⟩ (.bool n6)).setCell ⟨rA, 4, none⟩ (.slice o6 l6 c6)).setCell ⟨rA, 5, none⟩ (.slice p6 m6 k6)) n6 o6 l6 c6 p6 m6 k6 ((8 : Int) : Rat)) := FA.out.rat (by simp [NoWord]) (ws := [.bool n5, .slice o5 l5 c5, .slice p5 m5 k5, .bool n6, .slice o6 l6 c6, .slice p6 m6 k6]) rfl H6.out; have BA : Hid (Bx ((((((V.setCell ⟨rA, 0, none⟩ (.bool n5)).setCell ⟨rA, 1, none⟩ (.slice o5 l5 c5)).setCell ⟨rA, 2, none⟩ (.slice p5 m5 k5)).setCell ⟨rA, 3, none⟩ (.bool n6)).setCell ⟨rA, 4, none⟩ (.slice o6 l6 c6)).setCell ⟨rA, 5, none⟩ (.slice p6 m6 k6)) rA [.bool n5, .slice o5 l5 c5, .slice p5 m5 k5, .bool n6, .slice o6 l6 c6, .slice p6 m6 k6]) := FA.out.put (ws := [.bool n5, .slice o5 l5 c5, .slice p5 m5 k5, .bool n6, .slice o6 l6 c6, .slice p6 m6 k6]) rfl; clear FA; replace hbV : Below Y.heap.size Y ((((((V.setCell ⟨rA, 0, none⟩ (.bool n5)).setCell ⟨rA, 1, none⟩ (.slice o5 l5 c5)).setCell ⟨rA, 2, none⟩ (.slice p5 m5 k5)).setCell ⟨rA, 3, none⟩ (.bool n6)).setCell ⟨rA, 4, none⟩ (.slice o6 l6 c6)).setCell ⟨rA, 5, none⟩ (.slice p6 m6 k6)) := putl_below hzA [.bool n5, .slice o5 l5 c5, .slice p5 m5 k5, .bool n6, .slice o6 l6 c6, .slice p6 m6 k6] 0 _ hbV; refine hK.out _ _ (by (try dsimp only); exact KY.out _ hbV) (fun hHeld => ?_); clear hK K hHeld; (try simp only [Act.put, List.setIfInBounds_toArray, List.set_cons_zero, List.set_cons_succ]); generalize ((((((V.setCell ⟨rA, 0, none⟩ (.bool n5)).setCell ⟨rA, 1, none⟩ (.slice o5 l5 c5)).setCell ⟨rA, 2, none⟩ (.slice p5 m5 k5)).setCell ⟨rA, 3, none⟩ (.bool n6)).setCell ⟨rA, 4, none⟩ (.slice o6 l6 c6)).setCell ⟨rA, 5, none⟩ (.slice p6 m6 k6)) = V at *; have hHeld : V.cell? ⟨r1, 0, none⟩ = some (.bool n1) ∧ V.cell? ⟨r1, 1, none⟩ = some (.slice o1 l1 c1) ∧ V.cell? ⟨r1, 2, none⟩ = some (.slice p1 m1 k1) ∧ V.cell? ⟨r1, 3, none⟩ = some (.bool n2) ∧ V.cell? ⟨r1, 4, none⟩ = some (.slice o2 l2 c2) ∧ V.cell? ⟨r1, 5, none⟩ = some (.slice p2 m2 k2) := KY.out _ hbV)
  all_goals (
   refine wpAnyH_take (i := 10) (oi := Oper.mk (some 3) _ _ _ _ _) (v := ?_) rfl (by kernel_rfl) (by kernel_rfl) (by kernel_rfl) (fun _ _ _ h => h) (Or.inl ⟨by rfl, ?_⟩) (by assumption) ?_
   rotate_left
   ·
    (intro w hSw; (try dsimp only at hSw); go_simp <;> (try with_reducible rfl))
   (try simp only [Act.put, List.setIfInBounds_toArray, List.set_cons_zero, List.set_cons_succ]))
  all_goals (refine wpAnyH_done (by kernel_rfl) ?_ _; refine NoPanic.normal ?_)
  all_goals (go_wp2; go_meet; exact ⟨_, _, _, _, _, _, _, _, _, _, _, _, _, _, _, rfl, rfl, BA.out, H5.out, H6.out, bnext HY.out.2.2.2 hbV⟩)
 case rest =>
  obtain ⟨r2, n5, o5, l5, c5, p5, m5, k5, n6, o6, l6, c6, p6, m6, k6, rfl, rfl, hb2, h5, h6, hbX⟩ := hcut
  obtain ⟨X, hX⟩ : ∃ X, X = wc := ⟨_, rfl⟩
  rw [← hX] at hb2 h5 h6 hbX
  rw [← hX]
  clear hX
  have HX : Hid (Bx X r2 [.bool n5, .slice o5 l5 c5, .slice p5 m5 k5, .bool n6, .slice o6 l6 c6, .slice p6 m6 k6] ∧ RatAt X n5 o5 l5 c5 p5 m5 k5 ((-4 : Int) : Rat) ∧ RatAt X n6 o6 l6 c6 p6 m6 k6 ((8 : Int) : Rat) ∧ Below w.heap.size w X) := ⟨hb2, h5, h6, hbX⟩
  have hlt2 := hb2.lt
  have KX : Hid (∀ w' : World, Below X.heap.size X w' → w'.cell? ⟨r2, 0, none⟩ = some (.bool n5) ∧ w'.cell? ⟨r2, 1, none⟩ = some (.slice o5 l5 c5) ∧ w'.cell? ⟨r2, 2, none⟩ = some (.slice p5 m5 k5) ∧ w'.cell? ⟨r2, 3, none⟩ = some (.bool n6) ∧ w'.cell? ⟨r2, 4, none⟩ = some (.slice o6 l6 c6) ∧ w'.cell? ⟨r2, 5, none⟩ = some (.slice p6 m6 k6)) := fun w' h => ⟨((HX.out.1).later h (by omega)).1 0 _ rfl, ((HX.out.1).later h (by omega)).1 1 _ rfl, ((HX.out.1).later h (by omega)).1 2 _ rfl, ((HX.out.1).later h (by omega)).1 3 _ rfl, ((HX.out.1).later h (by omega)).1 4 _ rfl, ((HX.out.1).later h (by omega)).1 5 _ rfl⟩
  clear hb2 h5 h6 hbX KY HY
  go_upto_region 3 with fail
  refine wp_region_noPanic ?_
  refine wp_region_held_drew (S := fun w' => (w'.cell? ⟨r2, 0, none⟩ = some (.bool n5) ∧ w'.cell? ⟨r2, 1, none⟩ = some (.slice o5 l5 c5) ∧ w'.cell? ⟨r2, 2, none⟩ = some (.slice p5 m5 k5) ∧ w'.cell? ⟨r2, 3, none⟩ = some (.bool n6) ∧ w'.cell? ⟨r2, 4, none⟩ = some (.slice o6 l6 c6) ∧ w'.cell? ⟨r2, 5, none⟩ = some (.slice p6 m6 k6))) (by kernel_rfl) (by (try dsimp only); exact KX.out _ (Below.refl _ _).drew) (fun hHeld => ?_)
  refine wpAnyH_take (i := 0) (oi := Oper.mk (some 15) _ _ _ _ _) (v := ?_) rfl (by kernel_rfl) (by kernel_rfl) (by kernel_rfl) (fun _ _ _ h => h) (Or.inl ⟨by rfl, ?_⟩) (by assumption) ?_
  rotate_left
  ·
   (intro w hSw; (try dsimp only at hSw); go_simp <;> (try with_reducible rfl))
  (try simp only [Act.put, List.setIfInBounds_toArray, List.set_cons_zero, List.set_cons_succ])
  refine wpAnyH_ready (rs := [1]) (by kernel_rfl) (by simp) ?_
  refine AllReadyH.cons (o := Oper.mk (some 16) _ _ _ _ _) rfl (fun K hK => ?_) AllReadyH.nil
  go_simp
  (go_at_call 14; refine (num3_bel 0 _).mono ?_; rintro e f1 ⟨rfl, hb⟩; skip; have hbF1 : Below X.heap.size X f1 := bnext (Below.refl _ _).drew hb; clear hb)
  (try go_wp2_with fail)
  clear hHeld
  refine hK.out _ _ (by (try dsimp only); first | exact KX.out _ (Below.refl _ _).drew | exact KX.out _ (by assumption)) (fun hHeld => ?_)
  clear hK K
  (try simp only [Act.put, List.setIfInBounds_toArray, List.set_cons_zero, List.set_cons_succ])
  refine wpAnyH_take (i := 2) (oi := Oper.mk (some 17) _ _ _ _ _) (v := ?_) rfl (by kernel_rfl) (by kernel_rfl) (by kernel_rfl) (fun _ _ _ h => h) (Or.inl ⟨by rfl, ?_⟩) (by assumption) ?_
  rotate_left
  ·
   (intro w hSw; (try dsimp only at hSw); go_simp <;> (try with_reducible rfl))
  (try simp only [Act.put, List.setIfInBounds_toArray, List.set_cons_zero, List.set_cons_succ])
  refine wpAnyH_take (i := 3) (oi := Oper.mk (some 18) _ _ _ _ _) (v := ?_) rfl (by kernel_rfl) (by kernel_rfl) (by kernel_rfl) (fun _ _ _ h => h) (Or.inl ⟨by rfl, ?_⟩) (by assumption) ?_
  rotate_left
  ·
   (intro w hSw; (try dsimp only at hSw); go_simp <;> (try with_reducible rfl))
  (try simp only [Act.put, List.setIfInBounds_toArray, List.set_cons_zero, List.set_cons_succ])
  refine wpAnyH_take (i := 4) (oi := Oper.mk (some 19) _ _ _ _ _) (v := ?_) rfl (by kernel_rfl) (by kernel_rfl) (by kernel_rfl) (fun _ _ _ h => h) (Or.inl ⟨by rfl, ?_⟩) (by assumption) ?_
  rotate_left
  ·
   (intro w hSw; (try dsimp only at hSw); go_simp <;> (try with_reducible rfl))
  (try simp only [Act.put, List.setIfInBounds_toArray, List.set_cons_zero, List.set_cons_succ])
  refine wpAnyH_ready (rs := [5]) (by kernel_rfl) (by simp) ?_
  refine AllReadyH.cons (o := Oper.mk (some 20) _ _ _ _ _) rfl (fun K hK => ?_) AllReadyH.nil
  go_simp
  (go_at_call 39; refine (qint_any (-4) _ (by decide) (by decide)).mono ?_; rintro e f2 ⟨n7, o7, l7, c7, p7, m7, k7, rfl, hr, hb⟩; have H7 : Hid (RatAt f2 n7 o7 l7 c7 p7 m7 k7 ((-4 : Int) : Rat)) := hr; clear hr; have hbF2 : Below X.heap.size X f2 := bnext hbF1 hb; clear hb)
  (try go_wp2_with fail)
  clear hHeld
  refine hK.out _ _ (by (try dsimp only); first | exact KX.out _ (Below.refl _ _).drew | exact KX.out _ (by assumption)) (fun hHeld => ?_)
  clear hK K
  (try simp only [Act.put, List.setIfInBounds_toArray, List.set_cons_zero, List.set_cons_succ])
  refine wpAnyH_ready (rs := [6]) (by kernel_rfl) (by simp) ?_
  refine AllReadyH.cons (o := Oper.mk (some 21) _ _ _ _ _) rfl (fun K hK => ?_) AllReadyH.nil
  go_simp
  (go_at_call 39; refine (qint_any 8 _ (by decide) (by decide)).mono ?_; rintro e f3 ⟨n8, o8, l8, c8, p8, m8, k8, rfl, hr, hb⟩; have H8 : Hid (RatAt f3 n7 o7 l7 c7 p7 m7 k7 ((-4 : Int) : Rat) ∧ RatAt f3 n8 o8 l8 c8 p8 m8 k8 ((8 : Int) : Rat)) := ⟨H7.out.later hb, hr⟩; clear hr; have hbF3 : Below X.heap.size X f3 := bnext hbF2 hb; clear hb)
  (try go_wp2_with fail)
  clear hHeld
  refine hK.out _ _ (by (try dsimp only); first | exact KX.out _ (Below.refl _ _).drew | exact KX.out _ (by assumption)) (fun hHeld => ?_)
  clear hK K
  (try simp only [Act.put, List.setIfInBounds_toArray, List.set_cons_zero, List.set_cons_succ])
  refine wpAnyH_take (i := 7) (oi := Oper.mk (some 22) _ _ _ _ _) (v := ?_) rfl (by kernel_rfl) (by kernel_rfl) (by kernel_rfl) (fun _ _ _ h => h) (Or.inl ⟨by rfl, ?_⟩) (by assumption) ?_
  rotate_left
  ·
   (intro w hSw; (try dsimp only at hSw); go_simp <;> (try with_reducible rfl))
  (try simp only [Act.put, List.setIfInBounds_toArray, List.set_cons_zero, List.set_cons_succ])
  refine wpAnyH_ready (rs := [8]) (by kernel_rfl) (by simp) ?_
  refine AllReadyH.cons (o := Oper.mk (some 23) _ _ _ _ _) rfl (fun K hK => ?_) AllReadyH.nil
  go_simp
  (go_at_call 44; refine (eqspan_same n5 n6 n7 n8 o5 p5 o6 p6 o7 p7 o8 p8 l5 c5 m5 k5 l6 c6 m6 k6 l7 c7 m7 k7 l8 c8 m8 k8 _ _ _ (HX.out.2.1.later hbF3) (HX.out.2.2.1.later hbF3) H8.out.1 H8.out.2 (wake_sz.2.2.2.2.1.mono (by decide)) (wake_sz.2.2.2.2.2.mono (by decide))).mono ?_; rintro e f4 ⟨rfl, hb⟩; skip; have hbF4 : Below X.heap.size X f4 := bnext hbF3 hb; clear hb)
  (try go_wp2_with fail)
  clear hHeld
  refine hK.out _ _ (by (try dsimp only); first | exact KX.out _ (Below.refl _ _).drew | exact KX.out _ (by assumption)) (fun hHeld => ?_)
  clear hK K
  (try simp only [Act.put, List.setIfInBounds_toArray, List.set_cons_zero, List.set_cons_succ])
  refine wpAnyH_take (i := 9) (oi := Oper.mk (some 24) _ _ _ _ _) (v := ?_) rfl (by kernel_rfl) (by kernel_rfl) (by kernel_rfl) (fun _ _ _ h => h) (Or.inl ⟨by rfl, ?_⟩) (by assumption) ?_
  rotate_left
  ·
   (intro w hSw; (try dsimp only at hSw); go_simp <;> (try with_reducible rfl))
  (try simp only [Act.put, List.setIfInBounds_toArray, List.set_cons_zero, List.set_cons_succ])
  refine wpAnyH_take (i := 10) (oi := Oper.mk (some 0) _ _ _ _ _) (v := ?_) rfl (by kernel_rfl) (by kernel_rfl) (by kernel_rfl) (fun _ _ _ h => h) (Or.inl ⟨by rfl, ?_⟩) (by assumption) ?_
  rotate_left
  ·
   (intro w hSw; (try dsimp only at hSw); go_simp <;> (try with_reducible rfl))
  (try simp only [Act.put, List.setIfInBounds_toArray, List.set_cons_zero, List.set_cons_succ])
  refine wpAnyH_done (by kernel_rfl) ?_ _
  refine NoPanic.normal ?_
  go_wp2
  go_ret
  exact ⟨rfl, bnext HX.out.2.2.2 hbF4⟩
end Go.Proofs.YtbkaiifplahhpaaGreatDoor
namespace Go.Proofs.YtbkaiifplahhpaaGreatDoor
open Go.RowKit
def put3 (W : World) (r : Nat) (v0 v1 v2 : Value) : World := ((W.setCell ⟨r, 0, none⟩ v0).setCell ⟨r, 1, none⟩ v1).setCell ⟨r, 2, none⟩ v2
theorem put3_off {w : World} {r b o : Nat} (h : b ≠ r) (v0 v1 v2 : Value) : (put3 w r v0 v1 v2).cell? ⟨b, o, none⟩ = w.cell? ⟨b, o, none⟩ := by
 unfold put3
 rw [cell_off h, cell_off h, cell_off h]
theorem Boxed3.off {w : World} {r s : Nat} {n : Bool} {o p : Option Addr} {l c m d : Nat} (h : Boxed3 w r n o l c p m d) (hs : r ≠ s) (x y z : Value) : Boxed3 (put3 w s x y z) r n o l c p m d := ⟨(put3_off hs _ _ _).trans h.1, (put3_off hs _ _ _).trans h.2.1, (put3_off hs _ _ _).trans h.2.2⟩
end Go.Proofs.YtbkaiifplahhpaaGreatDoor
namespace Go.Proofs.YtbkaiifplahhpaaGreatDoor
open Go.RowKit
theorem qpow_nonneg (na : Bool) (ao po : Option Addr) (la ca lp cp : Nat) (n : Nat) (a : Rat) (w : World) (hx : RatAt w na ao la ca po lp cp a) (hz : Sz a 1000) (hn : n ≤ 64) :
  Calls Tryz.prog 30 #[.agg #[.bool na, .slice ao la ca, .slice po lp cp], .int .i64 (n : Int)] w fun e w' => SomeR w w' e (a ^ n) := by
 obtain ⟨W, hT⟩ := ROne2.mk' w na ao po la ca lp cp
 have hsz : w.heap.size + 2 ≤ W.heap.size := by rw [hT.size]; exact Nat.le_refl _
 have HX : Hid (RatAt W na ao la ca po lp cp a) := hx.later hT.below
 have hla : la ≤ 1000 := (hx.len hz).1
 have hlp : lp ≤ 1000 := (hx.len hz).2
 have HW : Hid (Boxed3 W w.heap.size na ao la ca po lp cp ∧ Fresh3 W (w.heap.size + 1) ∧ Below w.heap.size w W) := ⟨hT.a, hT.r, hT.below⟩
 have KW : Hid (∀ w' : World, Below W.heap.size W w' → w'.cell? ⟨w.heap.size, 0, none⟩ = some (.bool na) ∧ w'.cell? ⟨w.heap.size, 1, none⟩ = some (.slice ao la ca) ∧ w'.cell? ⟨w.heap.size, 2, none⟩ = some (.slice po lp cp)) := fun w' h => HW.out.1.later h (by omega)
 have KS : Hid (∀ X : World, Below W.heap.size W X → ∀ x y z, (fun w' : World => w'.cell? ⟨w.heap.size, 0, none⟩ = some (.bool na) ∧ w'.cell? ⟨w.heap.size, 1, none⟩ = some (.slice ao la ca) ∧ w'.cell? ⟨w.heap.size, 2, none⟩ = some (.slice po lp cp)) (put3 X (w.heap.size + 1) x y z)) := fun X h x y z => HW.out.1.later h (by omega) |>.off (by omega) x y z
 obtain ⟨R, hR⟩ : ∃ R : Rat, R = a ^ n := ⟨_, rfl⟩
 have HR : Hid (R.num = a.num ^ n ∧ ((R.den : Nat) : Int) = (a.den : Int) ^ n) := ⟨by rw [hR, Rat.num_pow], by rw [hR, Rat.den_pow, Int.natCast_pow]⟩
 rw [← hR]
 clear hx hR
 have c1 : (0 : Int) ≤ (n : Int) := by omega
 have hmag := run_mag
 go_enter Tryz.func30, Tryz.ntmps30
 go_upto_region 2 with fail
 rw [← hT.eq]
 clear hT
 refine wp_region_noPanic ?_
 refine wp_region_held_drew (S := fun w' => (w'.cell? ⟨w.heap.size, 0, none⟩ = some (.bool na) ∧ w'.cell? ⟨w.heap.size, 1, none⟩ = some (.slice ao la ca) ∧ w'.cell? ⟨w.heap.size, 2, none⟩ = some (.slice po lp cp))) (by kernel_rfl) (by (try dsimp only); exact KW.out _ (Below.refl _ _).drew) (fun hHeld => ?_)
 refine wpAnyH_take (i := 0) (oi := Oper.mk (some 9) _ _ _ _ _) (v := ?_) rfl (by kernel_rfl) (by kernel_rfl) (by kernel_rfl) (fun _ _ _ h => h) (Or.inl ⟨by rfl, ?_⟩) (by assumption) ?_
 rotate_left
 ·
  (intro w hSw; (try dsimp only at hSw); go_simp <;> (try with_reducible rfl))
 (try simp only [Act.put, List.setIfInBounds_toArray, List.set_cons_zero, List.set_cons_succ])
 refine wpAnyH_take (i := 1) (oi := Oper.mk (some 10) _ _ _ _ _) (v := ?_) rfl (by kernel_rfl) (by kernel_rfl) (by kernel_rfl) (fun _ _ _ h => h) (Or.inl ⟨by rfl, ?_⟩) (by assumption) ?_
 rotate_left
 ·
  (intro w hSw; (try dsimp only at hSw); go_simp <;> (try with_reducible rfl))
 (try simp only [Act.put, List.setIfInBounds_toArray, List.set_cons_zero, List.set_cons_succ])
 refine wpAnyH_take (i := 2) (oi := Oper.mk (some 11) _ _ _ _ _) (v := ?_) rfl (by kernel_rfl) (by kernel_rfl) (by kernel_rfl) (fun _ _ _ h => h) (Or.inl ⟨by rfl, ?_⟩) (by assumption) ?_
 rotate_left
 ·
  (intro w hSw; (try dsimp only at hSw); go_simp <;> (try with_reducible rfl))
 (try simp only [Act.put, List.setIfInBounds_toArray, List.set_cons_zero, List.set_cons_succ])
 refine wpAnyH_take (i := 4) (oi := Oper.mk (some 13) _ _ _ _ _) (v := ?_) rfl (by kernel_rfl) (by kernel_rfl) (by kernel_rfl) (fun _ _ _ h => h) (Or.inl ⟨by rfl, ?_⟩) (by assumption) ?_
 rotate_left
 ·
  (intro w hSw; (try dsimp only at hSw); go_simp <;> (try with_reducible rfl))
 (try simp only [Act.put, List.setIfInBounds_toArray, List.set_cons_zero, List.set_cons_succ])
 refine wpAnyH_take (i := 6) (oi := Oper.mk (some 15) _ _ _ _ _) (v := ?_) rfl (by kernel_rfl) (by kernel_rfl) (by kernel_rfl) (fun _ _ _ h => h) (Or.inl ⟨by rfl, ?_⟩) (by assumption) ?_
 rotate_left
 ·
  (intro w hSw; (try dsimp only at hSw); go_simp <;> (try with_reducible rfl))
 (try simp only [Act.put, List.setIfInBounds_toArray, List.set_cons_zero, List.set_cons_succ])
 refine wpAnyH_ready (rs := [3]) (by kernel_rfl) (by simp) ?_
 refine AllReadyH.cons (o := Oper.mk (some 12) _ _ _ _ _) rfl (fun K hK => ?_) AllReadyH.nil
 go_simp
 (go_at_call 68; refine (rpow_any na ao la ca n a.num _ (HX.out.num.later (Below.refl _ _).drew) (by omega) hn).mono ?_; rintro e f1 ⟨n1, o1, l1, c1, rfl, hi, hb⟩; have H1 : Hid (IntAt f1 n1 o1 l1 c1 R.num) := (by rw [HR.out.1]; exact hi); clear hi; have hbF1 : Below W.heap.size W f1 := bnext (Below.refl _ _).drew hb; clear hb)
 (try go_wp2_with fail)
 clear hHeld
 refine hK.out _ _ (by (try dsimp only); first | exact KW.out _ (Below.refl _ _).drew | exact KW.out _ (by assumption)) (fun hHeld => ?_)
 clear hK K
 (try simp only [Act.put, List.setIfInBounds_toArray, List.set_cons_zero, List.set_cons_succ])
 refine wpAnyH_ready (rs := [5]) (by kernel_rfl) (by simp) ?_
 refine AllReadyH.cons (o := Oper.mk (some 14) _ _ _ _ _) rfl (fun K hK => ?_) AllReadyH.nil
 go_simp
 (go_at_call 66; refine (qden_any na ao po la ca lp cp _ (by omega)).mono ?_; rintro e f2 ⟨rfl, hb⟩; have H2 : Hid (IntAt f2 n1 o1 l1 c1 R.num) := H1.out.later hb; have hbF2 : Below W.heap.size W f2 := bnext hbF1 hb; clear hb)
 (try go_wp2_with fail)
 clear hHeld
 refine hK.out _ _ (by (try dsimp only); first | exact KW.out _ (Below.refl _ _).drew | exact KW.out _ (by assumption)) (fun hHeld => ?_)
 clear hK K
 (try simp only [Act.put, List.setIfInBounds_toArray, List.set_cons_zero, List.set_cons_succ])
 refine wpAnyH_ready (rs := [7]) (by kernel_rfl) (by simp) ?_
 refine AllReadyH.cons (o := Oper.mk (some 16) _ _ _ _ _) rfl (fun K hK => ?_) AllReadyH.nil
 go_simp
 (go_at_call 68; refine (rpow_any false po lp cp n (a.den : Int) _ (row_int (HX.out.den.later hbF2)) (by omega) hn).mono ?_; rintro e f3 ⟨n3, o3, l3, c3, rfl, hi, hb⟩; have H3 : Hid (RatAt f3 n1 o1 l1 c1 o3 l3 c3 R ∧ Below W.heap.size W f3) := ⟨⟨H2.out.later hb, (by have h := hi.row; rw [← HR.out.2, Int.natAbs_natCast] at h; exact h)⟩, bnext hbF2 hb⟩; clear hi; have hbF3 : Below W.heap.size W f3 := bnext hbF2 hb; clear hb)
 (try go_wp2_with fail)
 clear hHeld
 refine hK.out _ _ (by (try dsimp only); first | exact KW.out _ (Below.refl _ _).drew | exact KW.out _ (by assumption)) (fun hHeld => ?_)
 clear hK K
 (try simp only [Act.put, List.setIfInBounds_toArray, List.set_cons_zero, List.set_cons_succ])
 refine wpAnyH_take (i := 8) (oi := Oper.mk (some 17) _ _ _ _ _) (v := ?_) rfl (by kernel_rfl) (by kernel_rfl) (by kernel_rfl) (fun _ _ _ h => h) (Or.inl ⟨by rfl, ?_⟩) (by assumption) ?_
 rotate_left
 ·
  (intro w hSw; (try dsimp only at hSw); go_simp <;> (try with_reducible rfl))
 (try simp only [Act.put, List.setIfInBounds_toArray, List.set_cons_zero, List.set_cons_succ])
 refine wpAnyH_take (i := 9) (oi := Oper.mk (some 18) _ _ _ _ _) (v := ?_) rfl (by kernel_rfl) (by kernel_rfl) (by kernel_rfl) (fun _ _ _ h => h) (Or.inl ⟨by rfl, ?_⟩) (by assumption) ?_
 rotate_left
 ·
  (intro w hSw; (try dsimp only at hSw); go_simp <;> (try with_reducible rfl))
 (try simp only [Act.put, List.setIfInBounds_toArray, List.set_cons_zero, List.set_cons_succ])
 obtain ⟨g5, g2, g3, g4⟩ := HW.out.2.1.later H3.out.2 (by omega)
 refine wpAnyH_ready (rs := [10]) (by kernel_rfl) (by simp) ?_
 refine AllReadyH.cons (o := Oper.mk none _ _ _ _ _) rfl (fun K hK => ?_) AllReadyH.nil
 go_simp
 clear hHeld
 refine hK.out _ _ (by (try dsimp only); exact KS.out _ hbF3 _ _ _) (fun hHeld => ?_)
 clear hK K
 (try simp only [Act.put, List.setIfInBounds_toArray, List.set_cons_zero, List.set_cons_succ])
 refine wpAnyH_done (by kernel_rfl) ?_ _
 refine NoPanic.normal ?_
 go_wp2
 exact bodyPost_ret (v := .agg #[.bool n1, .slice o1 l1 c1, .slice o3 l3 c3]) (by simp [results, Tryz.results30, go_sem, g2, g3, g4]) rfl
  ⟨_, _, _, _, _, _, _, rfl, rat_kept H3.out.1 ⟨g2, g3, g4⟩, below_store3 (bnext HW.out.2.2 H3.out.2) (by omega) _ _ _⟩
end Go.Proofs.YtbkaiifplahhpaaGreatDoor
