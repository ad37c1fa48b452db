/-
  A pack of walks and facts: SD, SO, TJ.
-/
import Derived.Test.YtbkaiifplahhpaaGreatDoorPE15
import Derived.Test.YtbkaiifplahhpaaGreatDoorPE16
import Derived.Test.YtbkaiifplahhpaaGreatDoorPE17
import Derived.Test.YtbkaiifplahhpaaGreatDoorPE19
set_option maxRecDepth 100000
set_option maxHeartbeats 40000000
set_option linter.unusedVariables false
set_option linter.unusedSimpArgs false
namespace Go.Proofs.YtbkaiifplahhpaaGreatDoor
open Go.RowKit
theorem qmid_any (na nb : Bool) (ao po bo qo : Option Addr) (la ca lp cp lb cb lq cq : Nat) (a b : Rat) (w : World) (hx : RatAt w na ao la ca po lp cp a) (hy : RatAt w nb bo lb cb qo lq cq b) (ha : Sz a 200) (hb : Sz b 200) :
  Calls Tryz.prog 12 #[.agg #[.bool na, .slice ao la ca, .slice po lp cp], .agg #[.bool nb, .slice bo lb cb, .slice qo lq cq]] w fun e w' => SomeR w w' e ((a + b) * half2) := by
 obtain ⟨W, hT⟩ := RTwo3.mk' w na nb ao po bo qo la ca lp cp lb cb lq cq
 have hsz := hT.size
 have HX : Hid (RatAt W na ao la ca po lp cp a ∧ RatAt W nb bo lb cb qo lq cq b) := ⟨hx.later hT.below, hy.later hT.below⟩
 have HS : Hid (Sz a 1000 ∧ Sz b 1000 ∧ Sz (a + b) 1000) := ⟨ha.mono (by decide), hb.mono (by decide), (ha.add hb).mono (by decide)⟩
 obtain ⟨p0, p1, p2⟩ := hT.a
 obtain ⟨q0, q1, q2⟩ := hT.b
 clear hx hy ha hb
 go_enter Tryz.func12, Tryz.ntmps12
 go_wp2_with (first
  | (go_at_call 28; rw [← hT.eq]; refine (qplus_any na nb ao po bo qo la ca lp cp lb cb lq cq a b _ HX.out.1 HX.out.2 HS.out.1 HS.out.2.1).mono ?_; rintro e w2 ⟨n2, o2, l2, c2, o3, l3, c3, rfl, hr, hb2⟩; have H2 : Hid (RatAt w2 n2 o2 l2 c2 o3 l3 c3 (a + b) ∧ Below W.heap.size W w2) := ⟨hr, hb2⟩; clear hr hb2 p0 p1 p2 q0 q1 q2)
  | (go_at_call 37; refine (rfrom_any 1 _ (by decide) (by decide)).mono ?_; rintro e w3 ⟨n4, o4, l4, c4, rfl, hs, ho, hb3⟩; have H3 : Hid (RatAt w3 n2 o2 l2 c2 o3 l3 c3 (a + b) ∧ IntAt w3 n4 o4 l4 c4 1 ∧ Below W.heap.size W w3) := ⟨H2.out.1.later hb3, ho.int hs, bnext H2.out.2 hb3⟩; clear hs ho hb3)
  | (go_at_call 38; refine (nof_any 2 _ (by decide)).mono ?_; rintro e w4 ⟨o5, l5, c5, rfl, ho, hb4⟩; have H4 : Hid (RatAt w4 n2 o2 l2 c2 o3 l3 c3 (a + b) ∧ RatAt w4 n4 o4 l4 c4 o5 l5 c5 half2 ∧ Below W.heap.size W w4) := ⟨H3.out.1.later hb4, ⟨H3.out.2.1.later hb4, ho.row⟩, bnext H3.out.2.2 hb4⟩; clear ho hb4)
  | (go_at_call 29; refine (qtimes_any n2 n4 o2 o3 o4 o5 l2 c2 l3 c3 l4 c4 l5 c5 (a + b) half2 _ H4.out.1 H4.out.2.1 HS.out.2.2 (sz_half2.mono (by decide))).mono ?_; rintro e w5 ⟨n6, o6, l6, c6, p6, m6, k6, rfl, hr, hb5⟩; have HA : Hid (RatAt w5 n6 o6 l6 c6 p6 m6 k6 ((a + b) * half2) ∧ Below W.heap.size W w5) := ⟨hr, bnext H4.out.2.2 hb5⟩; clear hr hb5; obtain ⟨g5, g2, g3, g4⟩ := hT.r.later HA.out.2 (by omega)))
 exact bodyPost_ret (v := .agg #[.bool n6, .slice o6 l6 c6, .slice p6 m6 k6]) (by simp [results, Tryz.results12, go_sem, g2, g3, g4]) rfl
  ⟨_, _, _, _, _, _, _, rfl, rat_kept HA.out.1 ⟨g2, g3, g4⟩, below_store3 (bnext hT.below HA.out.2) (by omega) _ _ _⟩
theorem qcmp_any (na nb : Bool) (ao po bo qo : Option Addr) (la ca lp cp lb cb lq cq : Nat) (a b : Rat) (w : World) (hx : RatAt w na ao la ca po lp cp a) (hy : RatAt w nb bo lb cb qo lq cq b) (ha : Sz a 1000) (hb : Sz b 1000) (c : Int) (hc : cmpQ a b = c) :
  Calls Tryz.prog 34 #[.agg #[.bool na, .slice ao la ca, .slice po lp cp], .agg #[.bool nb, .slice bo lb cb, .slice qo lq cq]] w fun e w' => e = .returned (.int .i64 c) ∧ Below w.heap.size w w' := by
 obtain ⟨W, hT⟩ := RTwo2.mk' w na nb ao po bo qo la ca lp cp lb cb lq cq
 have hsz := hT.size
 have HX : Hid (RatAt W na ao la ca po lp cp a ∧ RatAt W nb bo lb cb qo lq cq b ∧ Below w.heap.size w W) := ⟨hx.later hT.below, hy.later hT.below, hT.below⟩
 have hla : la ≤ 1000 := (hx.len ha).1
 have hlp : lp ≤ 1000 := (hx.len ha).2
 have hlb : lb ≤ 1000 := (hy.len hb).1
 have hlq : lq ≤ 1000 := (hy.len hb).2
 have KW : Hid (∀ w' : World, Below W.heap.size W w' → w'.cell? ⟨w.heap.size, 0, none⟩ = some (.bool na) ∧ w'.cell? ⟨w.heap.size, 1, none⟩ = some (.slice ao la ca) ∧ w'.cell? ⟨w.heap.size, 2, none⟩ = some (.slice po lp cp) ∧ w'.cell? ⟨w.heap.size + 1, 0, none⟩ = some (.bool nb) ∧ w'.cell? ⟨w.heap.size + 1, 1, none⟩ = some (.slice bo lb cb) ∧ w'.cell? ⟨w.heap.size + 1, 2, none⟩ = some (.slice qo lq cq)) := fun w' h => ⟨(h.cell (p := ⟨w.heap.size, 0, none⟩) (by show w.heap.size < _; omega)).trans hT.a.1, (h.cell (p := ⟨w.heap.size, 1, none⟩) (by show w.heap.size < _; omega)).trans hT.a.2.1, (h.cell (p := ⟨w.heap.size, 2, none⟩) (by show w.heap.size < _; omega)).trans hT.a.2.2, (h.cell (p := ⟨w.heap.size + 1, 0, none⟩) (by show w.heap.size + 1 < _; omega)).trans hT.b.1, (h.cell (p := ⟨w.heap.size + 1, 1, none⟩) (by show w.heap.size + 1 < _; omega)).trans hT.b.2.1, (h.cell (p := ⟨w.heap.size + 1, 2, none⟩) (by show w.heap.size + 1 < _; omega)).trans hT.b.2.2⟩
 have HC : Hid (cmpI (a.num * (b.den : Int)) (b.num * (a.den : Int)) = c) := hc
 have HL : Hid ((mag (a.num * (b.den : Int)).natAbs).length ≤ 3000 ∧ (mag (b.num * (a.den : Int)).natAbs).length ≤ 3000) := by
  have h2 := mul_len a.num (b.den : Int)
  have h3 := mul_len b.num (a.den : Int)
  rw [Int.natAbs_natCast] at h2 h3
  have := ha.1; have := ha.2; have := hb.1; have := hb.2
  refine ⟨?_, ?_⟩ <;> omega
 clear hx hy ha hb hc
 go_enter Tryz.func34, Tryz.ntmps34
 go_upto_region 1 with fail
 rw [← hT.eq]
 clear hT
 have hzU : W.heap.size ≤ W.drew.heap.size := Nat.le_refl _
 have S0 : Step8 0 := ⟨trivial⟩
 go_region_held3 (fun w' => (w'.cell? ⟨w.heap.size, 0, none⟩ = some (.bool na) ∧ w'.cell? ⟨w.heap.size, 1, none⟩ = some (.slice ao la ca) ∧ w'.cell? ⟨w.heap.size, 2, none⟩ = some (.slice po lp cp) ∧ w'.cell? ⟨w.heap.size + 1, 0, none⟩ = some (.bool nb) ∧ w'.cell? ⟨w.heap.size + 1, 1, none⟩ = some (.slice bo lb cb) ∧ w'.cell? ⟨w.heap.size + 1, 2, none⟩ = some (.slice qo lq cq)))
  (with_reducible (first | exact KW.out _ (Below.refl _ _).drew | exact KW.out _ (by assumption) | (refine KW.out _ ?_; (repeat (first | refine below_alloc ?_ (Nat.le_refl _) | refine Below.drew ?_ | refine below_set ?_ (by omega))); (first | exact hbF5 | exact hbF4 | exact hbF3 | exact hbF2 | exact hbF1 | exact Below.refl _ _))))
  (first
   | (have _t := S0; go_at_call 66; refine with_held (S := fun w9 => Below W.heap.size W w9) (by show Below _ _ _; with_reducible ((repeat (first | refine below_alloc ?_ (Nat.le_refl _) | refine Below.drew ?_ | refine below_set ?_ (by omega))); (first | exact hbF5 | exact hbF4 | exact hbF3 | exact hbF2 | exact hbF1 | exact Below.refl _ _))) (fun hS => ?_); refine (qden_any nb bo qo lb cb lq cq _ (by omega)).mono ?_; rintro e f1 ⟨rfl, hb⟩; skip; have hbF1 : Below W.heap.size W f1 := bnext hS hb; have hzF1 := hbF1.size; clear hS hb S0; have S1 : Step8 1 := ⟨trivial⟩)
   | (have _t := S1; go_at_call 65; refine with_held (S := fun w9 => Below W.heap.size W w9) (by show Below _ _ _; with_reducible ((repeat (first | refine below_alloc ?_ (Nat.le_refl _) | refine Below.drew ?_ | refine below_set ?_ (by omega))); (first | exact hbF5 | exact hbF4 | exact hbF3 | exact hbF2 | exact hbF1 | exact Below.refl _ _))) (fun hS => ?_); refine with_held (S := fun w9 => Below f1.heap.size f1 w9) (by show Below _ _ _; with_reducible ((repeat (refine below_alloc ?_ (Nat.le_refl _))); exact Below.refl _ _)) (fun hS2 => ?_); refine (rtimes_any na false ao qo la ca lq cq a.num (b.den : Int) _ (HX.out.1.num.later hS) (row_int (HX.out.2.1.den.later hS)) (by omega) (by omega)).mono ?_; rintro e f2 ⟨n1, o1, l1, c1, rfl, hs, ho, hb⟩; have H2 : Hid (IntAt f2 n1 o1 l1 c1 (a.num * (b.den : Int))) := ho.int hs; have hl1 : l1 ≤ 3000 := (by rw [ho.row.hlen]; exact HL.out.1); clear hs ho; have hbF2 : Below W.heap.size W f2 := bnext hS hb; have hzF2 := hbF2.size; clear hS hb S1; clear hS2; have S2 : Step8 2 := ⟨trivial⟩)
   | (have _t := S2; go_at_call 66; refine with_held (S := fun w9 => Below W.heap.size W w9) (by show Below _ _ _; with_reducible ((repeat (first | refine below_alloc ?_ (Nat.le_refl _) | refine Below.drew ?_ | refine below_set ?_ (by omega))); (first | exact hbF5 | exact hbF4 | exact hbF3 | exact hbF2 | exact hbF1 | exact Below.refl _ _))) (fun hS => ?_); refine with_held (S := fun w9 => Below f2.heap.size f2 w9) (by show Below _ _ _; with_reducible ((repeat (refine below_alloc ?_ (Nat.le_refl _))); exact Below.refl _ _)) (fun hS2 => ?_); refine (qden_any na ao po la ca lp cp _ (by omega)).mono ?_; rintro e f3 ⟨rfl, hb⟩; have H3 : Hid (IntAt f3 n1 o1 l1 c1 (a.num * (b.den : Int))) := H2.out.later (bnext hS2 hb); have hbF3 : Below W.heap.size W f3 := bnext hS hb; have hzF3 := hbF3.size; clear hS hb S2; clear hS2; have S3 : Step8 3 := ⟨trivial⟩)
   | (have _t := S3; go_at_call 65; refine with_held (S := fun w9 => Below W.heap.size W w9) (by show Below _ _ _; with_reducible ((repeat (first | refine below_alloc ?_ (Nat.le_refl _) | refine Below.drew ?_ | refine below_set ?_ (by omega))); (first | exact hbF5 | exact hbF4 | exact hbF3 | exact hbF2 | exact hbF1 | exact Below.refl _ _))) (fun hS => ?_); refine with_held (S := fun w9 => Below f3.heap.size f3 w9) (by show Below _ _ _; with_reducible ((repeat (refine below_alloc ?_ (Nat.le_refl _))); exact Below.refl _ _)) (fun hS2 => ?_); refine (rtimes_any nb false bo po lb cb lp cp b.num (a.den : Int) _ (HX.out.2.1.num.later hS) (row_int (HX.out.1.den.later hS)) (by omega) (by omega)).mono ?_; rintro e f4 ⟨n2, o2, l2, c2, rfl, hs, ho, hb⟩; have H4 : Hid (IntAt f4 n1 o1 l1 c1 (a.num * (b.den : Int)) ∧ IntAt f4 n2 o2 l2 c2 (b.num * (a.den : Int))) := ⟨H3.out.later (bnext hS2 hb), ho.int hs⟩; have hl2 : l2 ≤ 3000 := (by rw [ho.row.hlen]; exact HL.out.2); clear hs ho; have hbF4 : Below W.heap.size W f4 := bnext hS hb; have hzF4 := hbF4.size; clear hS hb S3; clear hS2; have S4 : Step8 4 := ⟨trivial⟩)
   | (have _t := S4; go_at_call 74; refine with_held (S := fun w9 => Below W.heap.size W w9) (by show Below _ _ _; with_reducible ((repeat (first | refine below_alloc ?_ (Nat.le_refl _) | refine Below.drew ?_ | refine below_set ?_ (by omega))); (first | exact hbF5 | exact hbF4 | exact hbF3 | exact hbF2 | exact hbF1 | exact Below.refl _ _))) (fun hS => ?_); refine with_held (S := fun w9 => Below f4.heap.size f4 w9) (by show Below _ _ _; with_reducible ((repeat (refine below_alloc ?_ (Nat.le_refl _))); exact Below.refl _ _)) (fun hS2 => ?_); refine (rcmp_any n1 n2 o1 o2 l1 c1 l2 c2 _ _ _ (H4.out.1.later hS2) (H4.out.2.later hS2) (by omega) (by omega) c HC.out).mono ?_; rintro e f5 ⟨rfl, hb⟩; skip; have hbF5 : Below W.heap.size W f5 := bnext hS hb; have hzF5 := hbF5.size; clear hS hb S4; clear hS2; skip))
 all_goals go_wp2
 go_ret
 exact ⟨rfl, bnext HX.out.2.2 hbF5⟩
end Go.Proofs.YtbkaiifplahhpaaGreatDoor
namespace Go.Proofs.YtbkaiifplahhpaaGreatDoor
open Go.RowKit
theorem pow_nonneg (na : Bool) (ao po : Option Addr) (la ca lp cp : Nat) (n : Nat) (a : Rat) (w : World) (hx : RatAt w na ao la ca po lp cp a) (hl : la ≤ 1073741824) (hl' : lp ≤ 1073741824) (hT0 : TabAt 0 Lib.deBruijn64tab w) (hn : n ≤ 64) (hp : PowFits a.num n ∧ PowFits (a.den : Int) n) :
  Calls Tryz.prog 119 #[.agg #[.bool na, .slice ao la ca, .slice po lp cp], .int .i64 (n : Int)] w fun e w' => NewRatErr w w' e (a ^ n) := by
 obtain ⟨W, hT⟩ := ROne2.mk' w na ao po la ca lp cp
 have hsz := hT.size
 have HX : Hid (RatAt W na ao la ca po lp cp a ∧ TabAt 0 Lib.deBruijn64tab W) := ⟨hx.later hT.below, tab_later hT0 hT.below⟩
 have HP : Hid (PowFits a.num n ∧ PowFits (a.den : Int) n) := hp
 have h1 : ¬ (n : Int) < -64 := by omega
 have h2 : ¬ (64 : Int) < (n : Int) := by omega
 have h3 : ¬ (n : Int) < 0 := by omega
 clear hx hT0 hp
 go_enter Tryz.func119, Tryz.ntmps119
 go_wp2_with (first
  | (go_at_call 139; refine (power_rat na ao po la ca lp cp n a _ (HX.out.1.later hb1) HP.out.1 HP.out.2).mono ?_; rintro e w3 ⟨n4, o4, l4, c4, o5, l5, c5, rfl, hs, ho, hp, hpt, hb3⟩; have HA : Hid (n4 = sgB (a ^ n).num ∧ Own W.heap.size w3 .u64 68 o4 l4 c4 (mag (a ^ n).num.natAbs) ∧ Own W.heap.size w3 .u64 68 o5 l5 c5 (mag (a ^ n).den) ∧ Parted o4 o5 ∧ Below W.heap.size W w3) := ⟨hs, ho.mono hb1.size, hp.mono hb1.size, hpt, bnext hb1 hb3⟩; clear hs ho hp hpt hb3 p0 p1 p2 g5 g2 g3 g4; obtain ⟨g5, g2, g3, g4⟩ := hT.r.later HA.out.2.2.2.2 (by omega))
  | (go_at_call 40; rw [← hT.eq]; refine (rcheck_good na ao po la ca lp cp a _ HX.out.1 (by omega) (by omega) HX.out.2).mono ?_; rintro e w1 ⟨rfl, hb1⟩; obtain ⟨p0, p1, p2⟩ := hT.a.later hb1 (by omega); obtain ⟨g5, g2, g3, g4⟩ := hT.r.later hb1 (by omega)))
 exact bodyPost_ret (v := .tuple #[.agg #[.bool n4, .slice o4 l4 c4, .slice o5 l5 c5], .int .i64 0]) (by simp [results, Tryz.results119, go_sem, g2, g3, g4]) rfl
  ⟨_, _, _, _, _, _, _, rfl, HA.out.1, (HA.out.2.1.store3 (by omega) _ _ _).mono (by omega), (HA.out.2.2.1.store3 (by omega) _ _ _).mono (by omega), HA.out.2.2.2.1, below_store3 (bnext hT.below HA.out.2.2.2.2) (by omega) _ _ _⟩
theorem powfits_any {v : Int} {n : Nat} (hl : (mag v.natAbs).length ≤ 8) (hn : n ≤ 64) : PowFits v n := fun neg ao l c X h => by
 have h1 := len_pow v (n / 2)
 have h2 := len_pow v n
 rw [Int.natAbs_pow] at h1 h2
 have h3 : (mag v.natAbs).length * (n / 2) ≤ 8 * 64 := Nat.mul_le_mul hl (by omega)
 have h4 : (mag v.natAbs).length * n ≤ 8 * 64 := Nat.mul_le_mul hl hn
 exact bpow_any neg ao l c n v X h (by rw [h.row.hlen]; omega) hn (by omega) (by omega)
end Go.Proofs.YtbkaiifplahhpaaGreatDoor
namespace Go.Proofs.YtbkaiifplahhpaaGreatDoor
open Go.RowKit
theorem splus_any (n1 n2 : Bool) (o1 p1 o2 p2 : Option Addr) (l1 c1 m1 k1 l2 c2 m2 k2 : Nat) (a b : Rat) (w : World) (hx : RatAt w n1 o1 l1 c1 p1 m1 k1 a) (hy : RatAt w n2 o2 l2 c2 p2 m2 k2 b) (ha : Sz a 1000) (hb : Sz b 1000) (hT0 : TabAt 0 Lib.deBruijn64tab w) :
  Calls Tryz.prog 43 #[.agg #[.bool n1, .slice o1 l1 c1, .slice p1 m1 k1], .agg #[.bool n2, .slice o2 l2 c2, .slice p2 m2 k2]] w fun e w' => NewRat w w' e (a + b) := by
 obtain ⟨W, hW, hsz, hbW, hA, hB, hR⟩ := enter3 w [.bool n1, .slice o1 l1 c1, .slice p1 m1 k1] [.bool n2, .slice o2 l2 c2, .slice p2 m2 k2] [.bool false, .slice none 0 0, .slice none 0 0] 28 28 28
 have HX : Hid (RatAt W n1 o1 l1 c1 p1 m1 k1 a ∧ RatAt W n2 o2 l2 c2 p2 m2 k2 b ∧ TabAt 0 Lib.deBruijn64tab W) := ⟨hx.later hbW, hy.later hbW, tab_later hT0 hbW⟩
 have HC : Hid (Sz a 1000 ∧ Sz b 1000) := ⟨ha, hb⟩
 clear hx hy ha hb hT0
 go_enter Tryz.func43, Tryz.ntmps43
 go_upto_region 2 with (go_at_call 83; rw [← hW]; refine (add_rat n1 n2 o1 p1 o2 p2 l1 c1 m1 k1 l2 c2 m2 k2 a b _ HX.out.1 HX.out.2.1 HC.out.1 HC.out.2 HX.out.2.2).mono ?_; rintro e y ⟨n3, o3, l3, c3, p3, m3, k3, rfl, hs, ho, hp, hpt, hb⟩; have H3 : Hid ((n3 = sgB (a + b).num ∧ Own W.heap.size y .u64 68 o3 l3 c3 (mag (a + b).num.natAbs) ∧ Own W.heap.size y .u64 68 p3 m3 k3 (mag (a + b).den) ∧ Parted o3 p3) ∧ Below W.heap.size W y) := ⟨⟨hs, ho, hp, hpt⟩, hb⟩; clear hs ho hp hpt hb)
 clear hW
 obtain ⟨r6, hr6⟩ : ∃ r, r = y.heap.size := ⟨_, rfl⟩
 have hst : Below y.heap.size y (y.alloc (.cells #[.bool n3, .slice o3 l3 c3, .slice p3 m3 k3] 28)) := (Below.refl _ _).alloc (Nat.le_refl _) _
 have HY : Hid (Below W.heap.size W (y.alloc (.cells #[.bool n3, .slice o3 l3 c3, .slice p3 m3 k3] 28)) ∧ Bx (y.alloc (.cells #[.bool n3, .slice o3 l3 c3, .slice p3 m3 k3] 28)) r6 [.bool n3, .slice o3 l3 c3, .slice p3 m3 k3] ∧ (n3 = sgB (a + b).num ∧ Own W.heap.size (y.alloc (.cells #[.bool n3, .slice o3 l3 c3, .slice p3 m3 k3] 28)) .u64 68 o3 l3 c3 (mag (a + b).num.natAbs) ∧ Own W.heap.size (y.alloc (.cells #[.bool n3, .slice o3 l3 c3, .slice p3 m3 k3] 28)) .u64 68 p3 m3 k3 (mag (a + b).den) ∧ Parted o3 p3)) := ⟨bnext H3.out.2 hst, (by rw [hr6]; exact Bx.new _ _ _), ⟨H3.out.1.1, H3.out.1.2.1.later hst, H3.out.1.2.2.1.later hst, H3.out.1.2.2.2⟩⟩
 rw [← hr6]
 clear H3 hst hr6
 generalize y.alloc (.cells #[.bool n3, .slice o3 l3 c3, .slice p3 m3 k3] 28) = Y at *
 have e0 := HY.out.2.1.1 0 _ rfl; have e1 := HY.out.2.1.1 1 _ rfl; have e2 := HY.out.2.1.1 2 _ rfl
 have hF := hR.later HY.out.1 (by omega); have g5 := hF.2; have g2 := hF.1 0 _ rfl; have g3 := hF.1 1 _ rfl; have g4 := hF.1 2 _ rfl; clear hF
 go_wp2
 exact bodyPost_ret (v := .agg #[.bool n3, .slice o3 l3 c3, .slice p3 m3 k3]) (by simp [results, Tryz.results43, go_sem, g2, g3, g4]) rfl
  ⟨_, _, _, _, _, _, _, rfl, HY.out.2.2.1, (HY.out.2.2.2.1.store3 (by omega) _ _ _).mono (by omega), (HY.out.2.2.2.2.1.store3 (by omega) _ _ _).mono (by omega), HY.out.2.2.2.2.2, below_store3 (bnext hbW HY.out.1) (by omega) _ _ _⟩
theorem spower_any (n1 : Bool) (o1 p1 : Option Addr) (l1 c1 m1 k1 : Nat) (n : Nat) (a : Rat) (w : World) (hx : RatAt w n1 o1 l1 c1 p1 m1 k1 a) (ha : Sz a 8) (hn : n ≤ 64) (hT0 : TabAt 0 Lib.deBruijn64tab w) :
  Calls Tryz.prog 88 #[.agg #[.bool n1, .slice o1 l1 c1, .slice p1 m1 k1], .int .i64 (n : Int)] w fun e w' => NewRat w w' e (a ^ n) := by
 obtain ⟨W, hW, hsz, hbW, hA, hR⟩ := enter2 w [.bool n1, .slice o1 l1 c1, .slice p1 m1 k1] [.bool false, .slice none 0 0, .slice none 0 0] 28 28
 have HX : Hid (RatAt W n1 o1 l1 c1 p1 m1 k1 a ∧ TabAt 0 Lib.deBruijn64tab W) := ⟨hx.later hbW, tab_later hT0 hbW⟩
 have hl1 : l1 ≤ 8 := (hx.len ha).1
 have hm1 : m1 ≤ 8 := (hx.len ha).2
 have HP : Hid (PowFits a.num n ∧ PowFits (a.den : Int) n) := ⟨powfits_any ha.1 hn, powfits_any (by rw [Int.natAbs_natCast]; exact ha.2) hn⟩
 clear hx ha hT0
 go_enter Tryz.func88, Tryz.ntmps88
 go_upto_region 2 with (go_at_call 119; rw [← hW]; refine (pow_nonneg n1 o1 p1 l1 c1 m1 k1 n a _ HX.out.1 (by omega) (by omega) HX.out.2 (by omega) HP.out).mono ?_; rintro e y ⟨n3, o3, l3, c3, p3, m3, k3, rfl, hs, ho, hp, hpt, hb⟩; have H3 : Hid ((n3 = sgB (a ^ n).num ∧ Own W.heap.size y .u64 68 o3 l3 c3 (mag (a ^ n).num.natAbs) ∧ Own W.heap.size y .u64 68 p3 m3 k3 (mag (a ^ n).den) ∧ Parted o3 p3) ∧ Below W.heap.size W y) := ⟨⟨hs, ho, hp, hpt⟩, hb⟩; clear hs ho hp hpt hb)
 clear hW
 obtain ⟨r6, hr6⟩ : ∃ r, r = y.heap.size := ⟨_, rfl⟩
 have hst : Below y.heap.size y (y.alloc (.cells #[.bool n3, .slice o3 l3 c3, .slice p3 m3 k3] 28)) := (Below.refl _ _).alloc (Nat.le_refl _) _
 have HY : Hid (Below W.heap.size W (y.alloc (.cells #[.bool n3, .slice o3 l3 c3, .slice p3 m3 k3] 28)) ∧ Bx (y.alloc (.cells #[.bool n3, .slice o3 l3 c3, .slice p3 m3 k3] 28)) r6 [.bool n3, .slice o3 l3 c3, .slice p3 m3 k3] ∧ (n3 = sgB (a ^ n).num ∧ Own W.heap.size (y.alloc (.cells #[.bool n3, .slice o3 l3 c3, .slice p3 m3 k3] 28)) .u64 68 o3 l3 c3 (mag (a ^ n).num.natAbs) ∧ Own W.heap.size (y.alloc (.cells #[.bool n3, .slice o3 l3 c3, .slice p3 m3 k3] 28)) .u64 68 p3 m3 k3 (mag (a ^ n).den) ∧ Parted o3 p3)) := ⟨bnext H3.out.2 hst, (by rw [hr6]; exact Bx.new _ _ _), ⟨H3.out.1.1, H3.out.1.2.1.later hst, H3.out.1.2.2.1.later hst, H3.out.1.2.2.2⟩⟩
 rw [← hr6]
 clear H3 hst hr6
 generalize y.alloc (.cells #[.bool n3, .slice o3 l3 c3, .slice p3 m3 k3] 28) = Y at *
 have e0 := HY.out.2.1.1 0 _ rfl; have e1 := HY.out.2.1.1 1 _ rfl; have e2 := HY.out.2.1.1 2 _ rfl
 have hF := hR.later HY.out.1 (by omega); have g5 := hF.2; have g2 := hF.1 0 _ rfl; have g3 := hF.1 1 _ rfl; have g4 := hF.1 2 _ rfl; clear hF
 go_wp2
 exact bodyPost_ret (v := .agg #[.bool n3, .slice o3 l3 c3, .slice p3 m3 k3]) (by simp [results, Tryz.results88, go_sem, g2, g3, g4]) rfl
  ⟨_, _, _, _, _, _, _, rfl, HY.out.2.2.1, (HY.out.2.2.2.1.store3 (by omega) _ _ _).mono (by omega), (HY.out.2.2.2.2.1.store3 (by omega) _ _ _).mono (by omega), HY.out.2.2.2.2.2, below_store3 (bnext hbW HY.out.1) (by omega) _ _ _⟩
theorem sadd_any (n1 n2 n3 n4 : Bool) (o1 p1 o2 p2 o3 p3 o4 p4 : Option Addr) (l1 c1 m1 k1 l2 c2 m2 k2 l3 c3 m3 k3 l4 c4 m4 k4 : Nat) (a b a' b' : Rat) (w : World) (hx : RatAt w n1 o1 l1 c1 p1 m1 k1 a) (hy : RatAt w n2 o2 l2 c2 p2 m2 k2 b) (hx' : RatAt w n3 o3 l3 c3 p3 m3 k3 a') (hy' : RatAt w n4 o4 l4 c4 p4 m4 k4 b') (ha : Sz a 1000) (hb : Sz b 1000) (ha' : Sz a' 1000) (hb' : Sz b' 1000) (hc : cmpQ a b ≤ 0) (hc' : cmpQ a' b' ≤ 0) (hT0 : TabAt 0 Lib.deBruijn64tab w) :
  Calls Tryz.prog 16 #[.agg #[.bool n1, .slice o1 l1 c1, .slice p1 m1 k1, .bool n2, .slice o2 l2 c2, .slice p2 m2 k2], .agg #[.bool n3, .slice o3 l3 c3, .slice p3 m3 k3, .bool n4, .slice o4 l4 c4, .slice p4 m4 k4]] w fun e w' => SpErr w w' e (a + a') (b + b') := by
 obtain ⟨W, hW, hsz, hbW, hA, hB, hR⟩ := enter3 w [.bool n1, .slice o1 l1 c1, .slice p1 m1 k1, .bool n2, .slice o2 l2 c2, .slice p2 m2 k2] [.bool n3, .slice o3 l3 c3, .slice p3 m3 k3, .bool n4, .slice o4 l4 c4, .slice p4 m4 k4] [.bool false, .slice none 0 0, .slice none 0 0, .bool false, .slice none 0 0, .slice none 0 0] 30 30 30
 have HX : Hid ((RatAt W n1 o1 l1 c1 p1 m1 k1 a ∧ RatAt W n2 o2 l2 c2 p2 m2 k2 b) ∧ (RatAt W n3 o3 l3 c3 p3 m3 k3 a' ∧ RatAt W n4 o4 l4 c4 p4 m4 k4 b') ∧ TabAt 0 Lib.deBruijn64tab W) := ⟨⟨hx.later hbW, hy.later hbW⟩, ⟨hx'.later hbW, hy'.later hbW⟩, tab_later hT0 hbW⟩
 have HC : Hid ((Sz a 1000 ∧ Sz b 1000 ∧ cmpQ a b ≤ 0) ∧ (Sz a' 1000 ∧ Sz b' 1000 ∧ cmpQ a' b' ≤ 0)) := ⟨⟨ha, hb, hc⟩, ⟨ha', hb', hc'⟩⟩
 clear hx hy hx' hy' ha hb ha' hb' hc hc' hT0
 go_enter Tryz.func16, Tryz.ntmps16
 go_upto_region 4 with (go_at_call 42; rw [← hW]; refine (scheckBoth_good n1 n2 n3 n4 o1 p1 o2 p2 o3 p3 o4 p4 l1 c1 m1 k1 l2 c2 m2 k2 l3 c3 m3 k3 l4 c4 m4 k4 a b a' b' _ HX.out.1.1 HX.out.1.2 HX.out.2.1.1 HX.out.2.1.2 (HC.out.1.1.mono (by decide)) (HC.out.1.2.1.mono (by decide)) (HC.out.2.1.mono (by decide)) (HC.out.2.2.1.mono (by decide)) HC.out.1.2.2 HC.out.2.2.2 HX.out.2.2).mono ?_; rintro e y ⟨rfl, hb1⟩)
 clear hW
 obtain ⟨Y, hY⟩ : ∃ Y, Y = y := ⟨_, rfl⟩
 subst hY
 have HY : Hid (Below W.heap.size W Y) := hb1
 clear hb1
 have hzY := HY.out.size
 have KY : Hid (∀ w' : World, Below Y.heap.size Y w' → w'.cell? ⟨w.heap.size, 0, none⟩ = some (.bool n1) ∧ w'.cell? ⟨w.heap.size, 1, none⟩ = some (.slice o1 l1 c1) ∧ w'.cell? ⟨w.heap.size, 2, none⟩ = some (.slice p1 m1 k1) ∧ w'.cell? ⟨w.heap.size, 3, none⟩ = some (.bool n2) ∧ w'.cell? ⟨w.heap.size, 4, none⟩ = some (.slice o2 l2 c2) ∧ w'.cell? ⟨w.heap.size, 5, none⟩ = some (.slice p2 m2 k2) ∧ w'.cell? ⟨w.heap.size + 1, 0, none⟩ = some (.bool n3) ∧ w'.cell? ⟨w.heap.size + 1, 1, none⟩ = some (.slice o3 l3 c3) ∧ w'.cell? ⟨w.heap.size + 1, 2, none⟩ = some (.slice p3 m3 k3) ∧ w'.cell? ⟨w.heap.size + 1, 3, none⟩ = some (.bool n4) ∧ w'.cell? ⟨w.heap.size + 1, 4, none⟩ = some (.slice o4 l4 c4) ∧ w'.cell? ⟨w.heap.size + 1, 5, none⟩ = some (.slice p4 m4 k4)) := fun w' h => ⟨((hA.later HY.out (by omega)).later h (by omega)).1 0 _ rfl, ((hA.later HY.out (by omega)).later h (by omega)).1 1 _ rfl, ((hA.later HY.out (by omega)).later h (by omega)).1 2 _ rfl, ((hA.later HY.out (by omega)).later h (by omega)).1 3 _ rfl, ((hA.later HY.out (by omega)).later h (by omega)).1 4 _ rfl, ((hA.later HY.out (by omega)).later h (by omega)).1 5 _ rfl, ((hB.later HY.out (by omega)).later h (by omega)).1 0 _ rfl, ((hB.later HY.out (by omega)).later h (by omega)).1 1 _ rfl, ((hB.later HY.out (by omega)).later h (by omega)).1 2 _ rfl, ((hB.later HY.out (by omega)).later h (by omega)).1 3 _ rfl, ((hB.later HY.out (by omega)).later h (by omega)).1 4 _ rfl, ((hB.later HY.out (by omega)).later h (by omega)).1 5 _ rfl⟩
 have KR : Hid (∀ X : World, Below Y.heap.size Y X → ∀ vs, (fun w' : World => w'.cell? ⟨w.heap.size, 0, none⟩ = some (.bool n1) ∧ w'.cell? ⟨w.heap.size, 1, none⟩ = some (.slice o1 l1 c1) ∧ w'.cell? ⟨w.heap.size, 2, none⟩ = some (.slice p1 m1 k1) ∧ w'.cell? ⟨w.heap.size, 3, none⟩ = some (.bool n2) ∧ w'.cell? ⟨w.heap.size, 4, none⟩ = some (.slice o2 l2 c2) ∧ w'.cell? ⟨w.heap.size, 5, none⟩ = some (.slice p2 m2 k2) ∧ w'.cell? ⟨w.heap.size + 1, 0, none⟩ = some (.bool n3) ∧ w'.cell? ⟨w.heap.size + 1, 1, none⟩ = some (.slice o3 l3 c3) ∧ w'.cell? ⟨w.heap.size + 1, 2, none⟩ = some (.slice p3 m3 k3) ∧ w'.cell? ⟨w.heap.size + 1, 3, none⟩ = some (.bool n4) ∧ w'.cell? ⟨w.heap.size + 1, 4, none⟩ = some (.slice o4 l4 c4) ∧ w'.cell? ⟨w.heap.size + 1, 5, none⟩ = some (.slice p4 m4 k4)) (putl X (w.heap.size + 1 + 1) 0 vs)) := fun X h vs => by
  obtain ⟨h0, h1, h2, h3, h4, h5, h6, h7, h8, h9, h10, h11⟩ := KY.out X h
  exact ⟨(putl_off (by omega) vs 0 X).trans h0, (putl_off (by omega) vs 0 X).trans h1, (putl_off (by omega) vs 0 X).trans h2, (putl_off (by omega) vs 0 X).trans h3, (putl_off (by omega) vs 0 X).trans h4, (putl_off (by omega) vs 0 X).trans h5, (putl_off (by omega) vs 0 X).trans h6, (putl_off (by omega) vs 0 X).trans h7, (putl_off (by omega) vs 0 X).trans h8, (putl_off (by omega) vs 0 X).trans h9, (putl_off (by omega) vs 0 X).trans h10, (putl_off (by omega) vs 0 X).trans h11⟩
 refine wp_region_noPanic ?_
 refine wp_region_held_drew (S := fun w' => (w'.cell? ⟨w.heap.size, 0, none⟩ = some (.bool n1) ∧ w'.cell? ⟨w.heap.size, 1, none⟩ = some (.slice o1 l1 c1) ∧ w'.cell? ⟨w.heap.size, 2, none⟩ = some (.slice p1 m1 k1) ∧ w'.cell? ⟨w.heap.size, 3, none⟩ = some (.bool n2) ∧ w'.cell? ⟨w.heap.size, 4, none⟩ = some (.slice o2 l2 c2) ∧ w'.cell? ⟨w.heap.size, 5, none⟩ = some (.slice p2 m2 k2) ∧ w'.cell? ⟨w.heap.size + 1, 0, none⟩ = some (.bool n3) ∧ w'.cell? ⟨w.heap.size + 1, 1, none⟩ = some (.slice o3 l3 c3) ∧ w'.cell? ⟨w.heap.size + 1, 2, none⟩ = some (.slice p3 m3 k3) ∧ w'.cell? ⟨w.heap.size + 1, 3, none⟩ = some (.bool n4) ∧ w'.cell? ⟨w.heap.size + 1, 4, none⟩ = some (.slice o4 l4 c4) ∧ w'.cell? ⟨w.heap.size + 1, 5, none⟩ = some (.slice p4 m4 k4))) (by kernel_rfl) (by (try dsimp only); exact KY.out _ (Below.refl _ _).drew) (fun hHeld => ?_)
 refine wpAnyH_take (i := 0) (oi := Oper.mk (some 14) _ _ _ _ _) (v := ?_) rfl (by decide +kernel) (by decide +kernel) (by decide +kernel) (fun _ _ _ h => h) (Or.inl ⟨by rfl, ?_⟩) (by assumption) ?_
 rotate_left
 ·
  (intro w hSw; (try dsimp only at hSw); go_simp <;> (try with_reducible rfl))
 (try simp only [Act.put, List.setIfInBounds_toArray, List.set_cons_zero, List.set_cons_succ])
 refine wpAnyH_take (i := 1) (oi := Oper.mk (some 15) _ _ _ _ _) (v := ?_) rfl (by decide +kernel) (by decide +kernel) (by decide +kernel) (fun _ _ _ h => h) (Or.inl ⟨by rfl, ?_⟩) (by assumption) ?_
 rotate_left
 ·
  (intro w hSw; (try dsimp only at hSw); go_simp <;> (try with_reducible rfl))
 (try simp only [Act.put, List.setIfInBounds_toArray, List.set_cons_zero, List.set_cons_succ])
 refine wpAnyH_take (i := 2) (oi := Oper.mk (some 16) _ _ _ _ _) (v := ?_) rfl (by decide +kernel) (by decide +kernel) (by decide +kernel) (fun _ _ _ h => h) (Or.inl ⟨by rfl, ?_⟩) (by assumption) ?_
 rotate_left
 ·
  (intro w hSw; (try dsimp only at hSw); go_simp <;> (try with_reducible rfl))
 (try simp only [Act.put, List.setIfInBounds_toArray, List.set_cons_zero, List.set_cons_succ])
 refine wpAnyH_take (i := 3) (oi := Oper.mk (some 17) _ _ _ _ _) (v := ?_) rfl (by decide +kernel) (by decide +kernel) (by decide +kernel) (fun _ _ _ h => h) (Or.inl ⟨by rfl, ?_⟩) (by assumption) ?_
 rotate_left
 ·
  (intro w hSw; (try dsimp only at hSw); go_simp <;> (try with_reducible rfl))
 (try simp only [Act.put, List.setIfInBounds_toArray, List.set_cons_zero, List.set_cons_succ])
 refine wpAnyH_take (i := 5) (oi := Oper.mk (some 19) _ _ _ _ _) (v := ?_) rfl (by decide +kernel) (by decide +kernel) (by decide +kernel) (fun _ _ _ h => h) (Or.inl ⟨by rfl, ?_⟩) (by assumption) ?_
 rotate_left
 ·
  (intro w hSw; (try dsimp only at hSw); go_simp <;> (try with_reducible rfl))
 (try simp only [Act.put, List.setIfInBounds_toArray, List.set_cons_zero, List.set_cons_succ])
 refine wpAnyH_take (i := 6) (oi := Oper.mk (some 20) _ _ _ _ _) (v := ?_) rfl (by decide +kernel) (by decide +kernel) (by decide +kernel) (fun _ _ _ h => h) (Or.inl ⟨by rfl, ?_⟩) (by assumption) ?_
 rotate_left
 ·
  (intro w hSw; (try dsimp only at hSw); go_simp <;> (try with_reducible rfl))
 (try simp only [Act.put, List.setIfInBounds_toArray, List.set_cons_zero, List.set_cons_succ])
 refine wpAnyH_take (i := 7) (oi := Oper.mk (some 21) _ _ _ _ _) (v := ?_) rfl (by decide +kernel) (by decide +kernel) (by decide +kernel) (fun _ _ _ h => h) (Or.inl ⟨by rfl, ?_⟩) (by assumption) ?_
 rotate_left
 ·
  (intro w hSw; (try dsimp only at hSw); go_simp <;> (try with_reducible rfl))
 (try simp only [Act.put, List.setIfInBounds_toArray, List.set_cons_zero, List.set_cons_succ])
 refine wpAnyH_take (i := 8) (oi := Oper.mk (some 22) _ _ _ _ _) (v := ?_) rfl (by decide +kernel) (by decide +kernel) (by decide +kernel) (fun _ _ _ h => h) (Or.inl ⟨by rfl, ?_⟩) (by assumption) ?_
 rotate_left
 ·
  (intro w hSw; (try dsimp only at hSw); go_simp <;> (try with_reducible rfl))
 (try simp only [Act.put, List.setIfInBounds_toArray, List.set_cons_zero, List.set_cons_succ])
 refine wpAnyH_ready (rs := [4]) (by decide +kernel) (by simp) ?_
 refine AllReadyH.cons (o := Oper.mk (some 18) _ _ _ _ _) rfl (fun K hK => ?_) AllReadyH.nil
 go_simp
 (go_at_call 43; refine (splus_any n1 n3 o1 p1 o3 p3 l1 c1 m1 k1 l3 c3 m3 k3 a a' _ (HX.out.1.1.later (bnext HY.out (Below.refl _ _).drew)) (HX.out.2.1.1.later (bnext HY.out (Below.refl _ _).drew)) HC.out.1.1 HC.out.2.1 (tab_later HX.out.2.2 (bnext HY.out (Below.refl _ _).drew))).mono ?_; rintro e f1 ⟨n5, o5, l5, c5, p5, m5, k5, rfl, hs, ho, hp, hpt, hb⟩; have H1 : Hid (n5 = sgB (a + a').num ∧ Own Y.heap.size f1 .u64 68 o5 l5 c5 (mag (a + a').num.natAbs) ∧ Own Y.heap.size f1 .u64 68 p5 m5 k5 (mag (a + a').den) ∧ Parted o5 p5) := ⟨hs, ho.mono (Nat.le_refl _), hp.mono (Nat.le_refl _), hpt⟩; clear hs ho hp hpt; have hbF1 : Below Y.heap.size Y f1 := bnext (Below.refl _ _).drew hb; clear hb)
 (try go_wp2_with fail)
 clear hHeld
 refine hK.out _ _ (by (try dsimp only); first | exact KY.out _ (Below.refl _ _).drew | exact KY.out _ (by assumption)) (fun hHeld => ?_)
 clear hK K
 (try simp only [Act.put, List.setIfInBounds_toArray, List.set_cons_zero, List.set_cons_succ])
 refine wpAnyH_ready (rs := [9]) (by decide +kernel) (by simp) ?_
 refine AllReadyH.cons (o := Oper.mk (some 23) _ _ _ _ _) rfl (fun K hK => ?_) AllReadyH.nil
 go_simp
 (go_at_call 43; refine (splus_any n2 n4 o2 p2 o4 p4 l2 c2 m2 k2 l4 c4 m4 k4 b b' _ (HX.out.1.2.later (bnext HY.out hbF1)) (HX.out.2.1.2.later (bnext HY.out hbF1)) HC.out.1.2.1 HC.out.2.2.1 (tab_later HX.out.2.2 (bnext HY.out hbF1))).mono ?_; rintro e f2 ⟨n6, o6, l6, c6, p6, m6, k6, rfl, hs, ho, hp, hpt, hb⟩; have H2 : Hid ((n5 = sgB (a + a').num ∧ Own Y.heap.size f2 .u64 68 o5 l5 c5 (mag (a + a').num.natAbs) ∧ Own Y.heap.size f2 .u64 68 p5 m5 k5 (mag (a + a').den) ∧ Parted o5 p5) ∧ (n6 = sgB (b + b').num ∧ Own Y.heap.size f2 .u64 68 o6 l6 c6 (mag (b + b').num.natAbs) ∧ Own Y.heap.size f2 .u64 68 p6 m6 k6 (mag (b + b').den) ∧ Parted o6 p6) ∧ (Parted o5 o6 ∧ Parted o5 p6 ∧ Parted p5 o6 ∧ Parted p5 p6)) := ⟨⟨H1.out.1, H1.out.2.1.later hb, H1.out.2.2.1.later hb, H1.out.2.2.2⟩, ⟨hs, ho.mono hbF1.size, hp.mono hbF1.size, hpt⟩, Parted.made H1.out.2.1 ho (Nat.le_refl _), Parted.made H1.out.2.1 hp (Nat.le_refl _), Parted.made H1.out.2.2.1 ho (Nat.le_refl _), Parted.made H1.out.2.2.1 hp (Nat.le_refl _)⟩; clear hs ho hp hpt; have hbF2 : Below Y.heap.size Y f2 := bnext hbF1 hb; clear hb)
 (try go_wp2_with fail)
 clear hHeld
 refine hK.out _ _ (by (try dsimp only); first | exact KY.out _ (Below.refl _ _).drew | exact KY.out _ (by assumption)) (fun hHeld => ?_)
 clear hK K
 (try simp only [Act.put, List.setIfInBounds_toArray, List.set_cons_zero, List.set_cons_succ])
 refine wpAnyH_take (i := 10) (oi := Oper.mk (some 24) _ _ _ _ _) (v := ?_) rfl (by decide +kernel) (by decide +kernel) (by decide +kernel) (fun _ _ _ h => h) (Or.inl ⟨by rfl, ?_⟩) (by assumption) ?_
 rotate_left
 ·
  (intro w hSw; (try dsimp only at hSw); go_simp <;> (try with_reducible rfl))
 (try simp only [Act.put, List.setIfInBounds_toArray, List.set_cons_zero, List.set_cons_succ])
 have hbW5 := bnext HY.out hbF2
 have hF := hR.later hbW5 (by omega); have g6 := hF.2; have g0 := hF.1 0 _ rfl; have g1 := hF.1 1 _ rfl; have g2 := hF.1 2 _ rfl; have g3 := hF.1 3 _ rfl; have g4 := hF.1 4 _ rfl; have g5 := hF.1 5 _ rfl; clear hF
 refine wpAnyH_ready (rs := [11]) (by decide +kernel) (by simp) ?_
 refine AllReadyH.cons (o := Oper.mk none _ _ _ _ _) rfl (fun K hK => ?_) AllReadyH.nil
 go_simp
 clear hHeld
 refine hK.out _ _ (by (try dsimp only); exact KR.out _ hbF2 [.bool n5, .slice o5 l5 c5, .slice p5 m5 k5, .bool n6, .slice o6 l6 c6, .slice p6 m6 k6]) (fun hHeld => ?_)
 clear hK K
 (try simp only [Act.put, List.setIfInBounds_toArray, List.set_cons_zero, List.set_cons_succ])
 refine wpAnyH_take (i := 12) (oi := Oper.mk (some 5) _ _ _ _ _) (v := ?_) rfl (by decide +kernel) (by decide +kernel) (by decide +kernel) (fun _ _ _ h => h) (Or.inl ⟨by rfl, ?_⟩) (by assumption) ?_
 rotate_left
 ·
  (intro w hSw; (try dsimp only at hSw); go_simp <;> (try with_reducible rfl))
 (try simp only [Act.put, List.setIfInBounds_toArray, List.set_cons_zero, List.set_cons_succ])
 refine wpAnyH_done (by decide +kernel) ?_ _
 refine NoPanic.normal ?_
 go_wp2
 exact bodyPost_ret (v := .tuple #[.agg #[.bool n5, .slice o5 l5 c5, .slice p5 m5 k5, .bool n6, .slice o6 l6 c6, .slice p6 m6 k6], .int .i64 0]) (by simp [results, Tryz.results16, go_sem, g0, g1, g2, g3, g4, g5]) rfl
  ⟨_, _, _, _, _, _, _, _, _, _, _, _, _, _, rfl, ⟨H2.out.1.1, (putl_own (r := w.heap.size + 1 + 1) (by omega) [.bool n5, .slice o5 l5 c5, .slice p5 m5 k5, .bool n6, .slice o6 l6 c6, .slice p6 m6 k6] 0 _ H2.out.1.2.1).mono (by omega), (putl_own (r := w.heap.size + 1 + 1) (by omega) [.bool n5, .slice o5 l5 c5, .slice p5 m5 k5, .bool n6, .slice o6 l6 c6, .slice p6 m6 k6] 0 _ H2.out.1.2.2.1).mono (by omega), H2.out.1.2.2.2⟩, ⟨H2.out.2.1.1, (putl_own (r := w.heap.size + 1 + 1) (by omega) [.bool n5, .slice o5 l5 c5, .slice p5 m5 k5, .bool n6, .slice o6 l6 c6, .slice p6 m6 k6] 0 _ H2.out.2.1.2.1).mono (by omega), (putl_own (r := w.heap.size + 1 + 1) (by omega) [.bool n5, .slice o5 l5 c5, .slice p5 m5 k5, .bool n6, .slice o6 l6 c6, .slice p6 m6 k6] 0 _ H2.out.2.1.2.2.1).mono (by omega), H2.out.2.1.2.2.2⟩, H2.out.2.2, putl_below (r := w.heap.size + 1 + 1) (by omega) [.bool n5, .slice o5 l5 c5, .slice p5 m5 k5, .bool n6, .slice o6 l6 c6, .slice p6 m6 k6] 0 _ (bnext hbW hbW5)⟩
theorem phas_any (n1 n2 n3 : Bool) (o1 p1 o2 p2 o3 p3 : Option Addr) (l1 c1 m1 k1 l2 c2 m2 k2 l3 c3 m3 k3 : Nat) (a b x : Rat) (w : World) (hx : RatAt w n1 o1 l1 c1 p1 m1 k1 a) (hy : RatAt w n2 o2 l2 c2 p2 m2 k2 b) (hz : RatAt w n3 o3 l3 c3 p3 m3 k3 x) (ha : Sz a 1000) (hb : Sz b 1000) (hxz : Sz x 1000) (r : Bool) (hr : hasQ a b x = r) :
  Calls Tryz.prog 27 #[.agg #[.bool n1, .slice o1 l1 c1, .slice p1 m1 k1, .bool n2, .slice o2 l2 c2, .slice p2 m2 k2], .agg #[.bool n3, .slice o3 l3 c3, .slice p3 m3 k3]] w fun e w' => e = .returned (.bool r) ∧ Below w.heap.size w w' := by
 obtain ⟨W, hW, hsz, hbW, hA, hB⟩ := enter2 w [.bool n1, .slice o1 l1 c1, .slice p1 m1 k1, .bool n2, .slice o2 l2 c2, .slice p2 m2 k2] [.bool n3, .slice o3 l3 c3, .slice p3 m3 k3] 30 28
 have HX : Hid ((RatAt W n1 o1 l1 c1 p1 m1 k1 a ∧ RatAt W n2 o2 l2 c2 p2 m2 k2 b) ∧ RatAt W n3 o3 l3 c3 p3 m3 k3 x) := ⟨⟨hx.later hbW, hy.later hbW⟩, hz.later hbW⟩
 have HC : Hid (Sz a 1000 ∧ Sz b 1000 ∧ Sz x 1000) := ⟨ha, hb, hxz⟩
 obtain ⟨c, hc1⟩ : ∃ c, cmpQ a x = c := ⟨_, rfl⟩
 obtain ⟨d, hd1⟩ : ∃ d, cmpQ x b = d := ⟨_, rfl⟩
 have HCC : Hid (cmpQ a x = c ∧ cmpQ x b = d) := ⟨hc1, hd1⟩
 unfold hasQ at hr
 rw [hc1, hd1] at hr
 clear hx hy hz ha hb hxz hc1 hd1
 by_cases hc0 : c ≤ 0
 ·
  have HR : Hid (decide (d ≤ 0) = r) := by show _ = _; rw [← hr, decide_eq_true hc0]; rfl
  clear hr
  go_enter Tryz.func27, Tryz.ntmps27
  go_wp2_with (first
   | (go_at_call 34; have _t := hb3; refine (qcmp_any n3 n2 o3 p3 o2 p2 l3 c3 m3 k3 l2 c2 m2 k2 x b _ (HX.out.2.later hb3) (HX.out.1.2.later hb3) HC.out.2.2 HC.out.2.1 d HCC.out.2).mono ?_; rintro e w4 ⟨rfl, hb4⟩)
   | (go_at_call 34; rw [← hW]; refine (qcmp_any n1 n3 o1 p1 o3 p3 l1 c1 m1 k1 l3 c3 m3 k3 a x _ HX.out.1.1 HX.out.2 HC.out.1 HC.out.2.2 c HCC.out.1).mono ?_; rintro e w3 ⟨rfl, hb3⟩; have ub := hA.later hb3 (by omega); have u0 := ub.1 0 _ rfl; have u1 := ub.1 1 _ rfl; have u2 := ub.1 2 _ rfl; have u3 := ub.1 3 _ rfl; have u4 := ub.1 4 _ rfl; have u5 := ub.1 5 _ rfl; clear ub; have qb := hB.later hb3 (by omega); have q0 := qb.1 0 _ rfl; have q1 := qb.1 1 _ rfl; have q2 := qb.1 2 _ rfl; clear qb))
  go_ret
  exact ⟨by rw [HR.out]; rfl, bnext hbW (bnext hb3 hb4)⟩
 ·
  obtain rfl : r = false := by rw [← hr, decide_eq_false hc0]; rfl
  clear hr
  go_enter Tryz.func27, Tryz.ntmps27
  go_wp2_with (go_at_call 34; rw [← hW]; refine (qcmp_any n1 n3 o1 p1 o3 p3 l1 c1 m1 k1 l3 c3 m3 k3 a x _ HX.out.1.1 HX.out.2 HC.out.1 HC.out.2.2 c HCC.out.1).mono ?_; rintro e w3 ⟨rfl, hb3⟩; have ub := hA.later hb3 (by omega); have u0 := ub.1 0 _ rfl; have u1 := ub.1 1 _ rfl; have u2 := ub.1 2 _ rfl; have u3 := ub.1 3 _ rfl; have u4 := ub.1 4 _ rfl; have u5 := ub.1 5 _ rfl; clear ub; have qb := hB.later hb3 (by omega); have q0 := qb.1 0 _ rfl; have q1 := qb.1 1 _ rfl; have q2 := qb.1 2 _ rfl; clear qb)
  go_ret
  exact ⟨rfl, bnext hbW hb3⟩
theorem pwithin_yes (n1 n2 n3 n4 : Bool) (o1 p1 o2 p2 o3 p3 o4 p4 : Option Addr) (l1 c1 m1 k1 l2 c2 m2 k2 l3 c3 m3 k3 l4 c4 m4 k4 : Nat) (a b a' b' : Rat) (w : World) (hx : RatAt w n1 o1 l1 c1 p1 m1 k1 a) (hy : RatAt w n2 o2 l2 c2 p2 m2 k2 b) (hx' : RatAt w n3 o3 l3 c3 p3 m3 k3 a') (hy' : RatAt w n4 o4 l4 c4 p4 m4 k4 b') (ha : Sz a 1000) (hb : Sz b 1000) (ha' : Sz a' 1000) (hb' : Sz b' 1000) (h1 : hasQ a' b' a = true) (h2 : hasQ a' b' b = true) :
  Calls Tryz.prog 31 #[.agg #[.bool n1, .slice o1 l1 c1, .slice p1 m1 k1, .bool n2, .slice o2 l2 c2, .slice p2 m2 k2], .agg #[.bool n3, .slice o3 l3 c3, .slice p3 m3 k3, .bool n4, .slice o4 l4 c4, .slice p4 m4 k4]] w fun e w' => e = .returned (.bool true) ∧ Below w.heap.size w w' := by
 obtain ⟨W, hW, hsz, hbW, hA, hB⟩ := enter2 w [.bool n1, .slice o1 l1 c1, .slice p1 m1 k1, .bool n2, .slice o2 l2 c2, .slice p2 m2 k2] [.bool n3, .slice o3 l3 c3, .slice p3 m3 k3, .bool n4, .slice o4 l4 c4, .slice p4 m4 k4] 30 30
 have HX : Hid ((RatAt W n1 o1 l1 c1 p1 m1 k1 a ∧ RatAt W n2 o2 l2 c2 p2 m2 k2 b) ∧ (RatAt W n3 o3 l3 c3 p3 m3 k3 a' ∧ RatAt W n4 o4 l4 c4 p4 m4 k4 b')) := ⟨⟨hx.later hbW, hy.later hbW⟩, ⟨hx'.later hbW, hy'.later hbW⟩⟩
 have HC : Hid ((Sz a 1000 ∧ Sz b 1000) ∧ (Sz a' 1000 ∧ Sz b' 1000)) := ⟨⟨ha, hb⟩, ⟨ha', hb'⟩⟩
 have HQ : Hid (hasQ a' b' a = true ∧ hasQ a' b' b = true) := ⟨h1, h2⟩
 clear hx hy hx' hy' ha hb ha' hb' h1 h2
 go_enter Tryz.func31, Tryz.ntmps31
 go_wp2_with (first
  | (go_at_call 27; have _t := hb3; refine (phas_any n3 n4 n2 o3 p3 o4 p4 o2 p2 l3 c3 m3 k3 l4 c4 m4 k4 l2 c2 m2 k2 a' b' b _ (HX.out.2.1.later hb3) (HX.out.2.2.later hb3) (HX.out.1.2.later hb3) HC.out.2.1 HC.out.2.2 HC.out.1.2 true HQ.out.2).mono ?_; rintro e w4 ⟨rfl, hb4⟩)
  | (go_at_call 27; rw [← hW]; refine (phas_any n3 n4 n1 o3 p3 o4 p4 o1 p1 l3 c3 m3 k3 l4 c4 m4 k4 l1 c1 m1 k1 a' b' a _ HX.out.2.1 HX.out.2.2 HX.out.1.1 HC.out.2.1 HC.out.2.2 HC.out.1.1 true HQ.out.1).mono ?_; rintro e w3 ⟨rfl, hb3⟩; have ub := hA.later hb3 (by omega); have u0 := ub.1 0 _ rfl; have u1 := ub.1 1 _ rfl; have u2 := ub.1 2 _ rfl; have u3 := ub.1 3 _ rfl; have u4 := ub.1 4 _ rfl; have u5 := ub.1 5 _ rfl; clear ub; have qb := hB.later hb3 (by omega); have q0 := qb.1 0 _ rfl; have q1 := qb.1 1 _ rfl; have q2 := qb.1 2 _ rfl; have q3 := qb.1 3 _ rfl; have q4 := qb.1 4 _ rfl; have q5 := qb.1 5 _ rfl; clear qb))
 go_ret
 exact ⟨rfl, bnext hbW (bnext hb3 hb4)⟩
end Go.Proofs.YtbkaiifplahhpaaGreatDoor
