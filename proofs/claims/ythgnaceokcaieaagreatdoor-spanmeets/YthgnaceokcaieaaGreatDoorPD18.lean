/-
  A pack of walks and facts: TH0, TE.
-/
import Derived.Test.YthgnaceokcaieaaGreatDoorPD17
set_option maxRecDepth 100000
set_option maxHeartbeats 40000000
set_option linter.unusedVariables false
set_option linter.unusedSimpArgs false
namespace Go.Proofs.YthgnaceokcaieaaGreatDoor
open Go.RowKit
def ElemS (w : World) (b o : Nat) : Prop :=
 ∃ (n1 n2 n3 n4 n5 : Bool) (o1 p1 o2 p2 o3 p3 o4 p4 o5 p5 : Option Addr) (l1 c1 m1 k1 l2 c2 m2 k2 l3 c3 m3 k3 l4 c4 m4 k4 l5 c5 m5 k5 : Nat) (N : Int) (x1 d1 x2 d2 x3 d3 x4 d4 x5 d5 : List Int), (∀ j v, [.bool n1, .slice o1 l1 c1, .slice p1 m1 k1, .bool n2, .slice o2 l2 c2, .slice p2 m2 k2, .bool n3, .slice o3 l3 c3, .slice p3 m3 k3, .bool n4, .slice o4 l4 c4, .slice p4 m4 k4, .bool n5, .slice o5 l5 c5, .slice p5 m5 k5, .int .i64 N][j]? = some v → w.cell? ⟨b, o + j, none⟩ = some v) ∧ (RowAt w .u64 o1 l1 c1 x1 ∧ Wd 18446744073709551616 x1 ∧ RowAt w .u64 p1 m1 k1 d1 ∧ Wd 18446744073709551616 d1) ∧ (RowAt w .u64 o2 l2 c2 x2 ∧ Wd 18446744073709551616 x2 ∧ RowAt w .u64 p2 m2 k2 d2 ∧ Wd 18446744073709551616 d2) ∧ (RowAt w .u64 o3 l3 c3 x3 ∧ Wd 18446744073709551616 x3 ∧ RowAt w .u64 p3 m3 k3 d3 ∧ Wd 18446744073709551616 d3) ∧ (RowAt w .u64 o4 l4 c4 x4 ∧ Wd 18446744073709551616 x4 ∧ RowAt w .u64 p4 m4 k4 d4 ∧ Wd 18446744073709551616 d4) ∧ (RowAt w .u64 o5 l5 c5 x5 ∧ Wd 18446744073709551616 x5 ∧ RowAt w .u64 p5 m5 k5 d5 ∧ Wd 18446744073709551616 d5)
def ElemsS (w : World) (lo : Option Addr) (n : Nat) : Prop := ∀ i, i < n → ∃ b off, lo = some ⟨b, off, none⟩ ∧ b < w.heap.size ∧ ElemS w b (off + i * 16)
theorem ElemS.later {w w' : World} {b o : Nat} (h : ElemS w b o) (hb : Below w.heap.size w w') (hlt : b < w.heap.size) : ElemS w' b o := by
 obtain ⟨n1, n2, n3, n4, n5, o1, p1, o2, p2, o3, p3, o4, p4, o5, p5, l1, c1, m1, k1, l2, c2, m2, k2, l3, c3, m3, k3, l4, c4, m4, k4, l5, c5, m5, k5, N, x1, d1, x2, d2, x3, d3, x4, d4, x5, d5, hc, ⟨r1, v1, s1, t1⟩, ⟨r2, v2, s2, t2⟩, ⟨r3, v3, s3, t3⟩, ⟨r4, v4, s4, t4⟩, ⟨r5, v5, s5, t5⟩⟩ := h
 exact ⟨n1, n2, n3, n4, n5, o1, p1, o2, p2, o3, p3, o4, p4, o5, p5, l1, c1, m1, k1, l2, c2, m2, k2, l3, c3, m3, k3, l4, c4, m4, k4, l5, c5, m5, k5, N, x1, d1, x2, d2, x3, d3, x4, d4, x5, d5, fun j v hj => (hb.cell (p := ⟨b, o + j, none⟩) hlt).trans (hc j v hj), ⟨r1.later hb, v1, s1.later hb, t1⟩, ⟨r2.later hb, v2, s2.later hb, t2⟩, ⟨r3.later hb, v3, s3.later hb, t3⟩, ⟨r4.later hb, v4, s4.later hb, t4⟩, ⟨r5.later hb, v5, s5.later hb, t5⟩⟩
theorem ElemS.elim {w : World} {b o : Nat} {P : Prop} (h : ElemS w b o) (f : ∀ (n1 n2 n3 n4 n5 : Bool) (o1 p1 o2 p2 o3 p3 o4 p4 o5 p5 : Option Addr) (l1 c1 m1 k1 l2 c2 m2 k2 l3 c3 m3 k3 l4 c4 m4 k4 l5 c5 m5 k5 : Nat) (N : Int) (x1 d1 x2 d2 x3 d3 x4 d4 x5 d5 : List Int), (∀ j v, [.bool n1, .slice o1 l1 c1, .slice p1 m1 k1, .bool n2, .slice o2 l2 c2, .slice p2 m2 k2, .bool n3, .slice o3 l3 c3, .slice p3 m3 k3, .bool n4, .slice o4 l4 c4, .slice p4 m4 k4, .bool n5, .slice o5 l5 c5, .slice p5 m5 k5, .int .i64 N][j]? = some v → w.cell? ⟨b, o + j, none⟩ = some v) → ((RowAt w .u64 o1 l1 c1 x1 ∧ Wd 18446744073709551616 x1 ∧ RowAt w .u64 p1 m1 k1 d1 ∧ Wd 18446744073709551616 d1) ∧ (RowAt w .u64 o2 l2 c2 x2 ∧ Wd 18446744073709551616 x2 ∧ RowAt w .u64 p2 m2 k2 d2 ∧ Wd 18446744073709551616 d2) ∧ (RowAt w .u64 o3 l3 c3 x3 ∧ Wd 18446744073709551616 x3 ∧ RowAt w .u64 p3 m3 k3 d3 ∧ Wd 18446744073709551616 d3) ∧ (RowAt w .u64 o4 l4 c4 x4 ∧ Wd 18446744073709551616 x4 ∧ RowAt w .u64 p4 m4 k4 d4 ∧ Wd 18446744073709551616 d4) ∧ (RowAt w .u64 o5 l5 c5 x5 ∧ Wd 18446744073709551616 x5 ∧ RowAt w .u64 p5 m5 k5 d5 ∧ Wd 18446744073709551616 d5)) → P) : P := by
 obtain ⟨n1, n2, n3, n4, n5, o1, p1, o2, p2, o3, p3, o4, p4, o5, p5, l1, c1, m1, k1, l2, c2, m2, k2, l3, c3, m3, k3, l4, c4, m4, k4, l5, c5, m5, k5, N, x1, d1, x2, d2, x3, d3, x4, d4, x5, d5, hc, hr⟩ := h
 exact f n1 n2 n3 n4 n5 o1 p1 o2 p2 o3 p3 o4 p4 o5 p5 l1 c1 m1 k1 l2 c2 m2 k2 l3 c3 m3 k3 l4 c4 m4 k4 l5 c5 m5 k5 N x1 d1 x2 d2 x3 d3 x4 d4 x5 d5 hc hr
def hasQ (a b v : Rat) : Bool := decide (cmpQ a v ≤ 0) && decide (cmpQ v b ≤ 0)
theorem cmpQ_le {a b : Rat} : cmpQ a b ≤ 0 ↔ a ≤ b := by
 show cmpI _ _ ≤ 0 ↔ _
 rw [Rat.le_iff]
 unfold cmpI
 split
 ·
  constructor
  ·
   intro _; omega
  ·
   intro _; omega
 ·
  split
  ·
   constructor
   ·
    intro h; omega
   ·
    intro h; omega
  ·
   constructor
   ·
    intro _; omega
   ·
    intro _; omega
theorem cmpQ_pos {a b : Rat} : 0 < cmpQ a b ↔ ¬ a ≤ b := by rw [← cmpQ_le]; omega
theorem hasQ_iff {a b v : Rat} : hasQ a b v = true ↔ a ≤ v ∧ v ≤ b := by
 unfold hasQ
 rw [Bool.and_eq_true, decide_eq_true_iff, decide_eq_true_iff, cmpQ_le, cmpQ_le]
theorem maxQ_le {a b v : Rat} : maxQ a b ≤ v ↔ a ≤ v ∧ b ≤ v := by
 unfold maxQ
 split
 ·
  rename_i h
  have h2 : a ≤ b := (Rat.le_total (a := a) (b := b)).resolve_right (cmpQ_pos.1 h)
  exact ⟨fun h3 => ⟨Rat.le_trans h2 h3, h3⟩, fun h3 => h3.2⟩
 ·
  rename_i h
  have h2 : b ≤ a := cmpQ_le.1 (by omega)
  exact ⟨fun h3 => ⟨h3, Rat.le_trans h2 h3⟩, fun h3 => h3.1⟩
theorem le_minQ {a b v : Rat} : v ≤ minQ a b ↔ v ≤ a ∧ v ≤ b := by
 unfold minQ
 split
 ·
  rename_i h
  have h2 : b ≤ a := cmpQ_le.1 (by omega)
  exact ⟨fun h3 => ⟨Rat.le_trans h3 h2, h3⟩, fun h3 => h3.2⟩
 ·
  rename_i h
  have h2 : a ≤ b := by
   have h4 : ¬ cmpQ b a < 0 := h
   rw [cmpQ_neg a b] at h4
   exact cmpQ_le.1 (by omega)
  exact ⟨fun h3 => ⟨h3, Rat.le_trans h3 h2⟩, fun h3 => h3.1⟩
theorem meet_has (a b a' b' v : Rat) : hasQ (maxQ a a') (minQ b b') v = (hasQ a b v && hasQ a' b' v) := by
 rw [Bool.eq_iff_iff, Bool.and_eq_true, hasQ_iff, hasQ_iff, hasQ_iff, maxQ_le, le_minQ]
 constructor
 ·
  rintro ⟨⟨h1, h2⟩, h3, h4⟩; exact ⟨⟨h1, h3⟩, h2, h4⟩
 ·
  rintro ⟨⟨h1, h2⟩, h3, h4⟩; exact ⟨⟨h1, h3⟩, h2, h4⟩
theorem meet_no {a b a' b' : Rat} (h : ¬ cmpQ (maxQ a a') (minQ b b') ≤ 0) (v : Rat) : (hasQ a b v && hasQ a' b' v) = false := by
 rw [← meet_has]
 cases hq : hasQ (maxQ a a') (minQ b b') v
 ·
  rfl
 ·
  obtain ⟨h1, h2⟩ := hasQ_iff.1 hq
  exact absurd (cmpQ_le.2 (Rat.le_trans h1 h2)) h
theorem mid_le {a b : Rat} (h : a ≤ b) : a ≤ (a + b) * half2 ∧ (a + b) * half2 ≤ b := by
 by_cases e : a = b
 ·
  subst e
  have h1 : (a + a) * half2 = a := by
   rw [Rat.add_mul, ← Rat.mul_add, half2_twice, Rat.mul_one]
  rw [h1]; exact ⟨Rat.le_refl, Rat.le_refl⟩
 ·
  have h2 : a < b := Rat.lt_of_le_of_ne h e
  obtain ⟨h3, h4⟩ := mid_lt half2_twice h2
  exact ⟨Rat.le_of_lt h3, Rat.le_of_lt h4⟩
theorem halves_has {a b : Rat} (h : a ≤ b) (v : Rat) : hasQ a b v = (hasQ a ((a + b) * half2) v || hasQ ((a + b) * half2) b v) := by
 obtain ⟨h1, h2⟩ := mid_le h
 rw [Bool.eq_iff_iff, Bool.or_eq_true, hasQ_iff, hasQ_iff, hasQ_iff]
 constructor
 ·
  rintro ⟨h3, h4⟩
  rcases Rat.le_total (a := v) (b := (a + b) * half2) with h5 | h5
  ·
   exact Or.inl ⟨h3, h5⟩
  ·
   exact Or.inr ⟨h5, h4⟩
 ·
  rintro (⟨h3, h4⟩ | ⟨h3, h4⟩)
  ·
   exact ⟨h3, Rat.le_trans h4 h2⟩
  ·
   exact ⟨Rat.le_trans h1 h3, h4⟩
theorem ask_build (n1 n2 n3 n4 n5 n12 : Bool) (o1 p1 o2 p2 o3 p3 o4 p4 o5 p5 o12 p12 : Option Addr) (l1 c1 m1 k1 l2 c2 m2 k2 l3 c3 m3 k3 l4 c4 m4 k4 l5 c5 m5 k5 l12 c12 m12 k12 : Nat) (w : World) : (Instr.buildSlice 57 6 #[(0, .agg #[.bool n5, .slice o5 l5 c5, .slice p5 m5 k5]), (1, .agg #[.bool n1, .slice o1 l1 c1, .slice p1 m1 k1]), (2, .agg #[.bool n2, .slice o2 l2 c2, .slice p2 m2 k2]), (3, .agg #[.bool n3, .slice o3 l3 c3, .slice p3 m3 k3]), (4, .agg #[.bool n4, .slice o4 l4 c4, .slice p4 m4 k4]), (5, .agg #[.bool n12, .slice o12 l12 c12, .slice p12 m12 k12])]).run Tryz.prog w = .ok (.slice (some ⟨w.heap.size, 0, none⟩) 6 6) (w.alloc (.cells #[.bool n5, .slice o5 l5 c5, .slice p5 m5 k5, .bool n1, .slice o1 l1 c1, .slice p1 m1 k1, .bool n2, .slice o2 l2 c2, .slice p2 m2 k2, .bool n3, .slice o3 l3 c3, .slice p3 m3 k3, .bool n4, .slice o4 l4 c4, .slice p4 m4 k4, .bool n12, .slice o12 l12 c12, .slice p12 m12 k12] 28)) := by kernel_rfl
end Go.Proofs.YthgnaceokcaieaaGreatDoor
namespace Go.Proofs.YthgnaceokcaieaaGreatDoor
open Go.RowKit
theorem shalves_any (n1 n2 : Bool) (o1 p1 o2 p2 : Option Addr) (l1 c1 m1 k1 l2 c2 m2 k2 : Nat) (a b : Rat) (w : World) (hx : RatAt w n1 o1 l1 c1 p1 m1 k1 a) (hy : RatAt w n2 o2 l2 c2 p2 m2 k2 b) (ha : Sz a 200) (hb : Sz b 200) (hc : cmpQ a b ≤ 0) (hT0 : TabAt 0 Lib.deBruijn64tab w) :
  Calls Tryz.prog 24 #[.agg #[.bool n1, .slice o1 l1 c1, .slice p1 m1 k1, .bool n2, .slice o2 l2 c2, .slice p2 m2 k2]] w fun e w' => HalvesOut w w' e a ((a + b) * half2) b := by
 obtain ⟨W, hW, hsz, hbW, hA, hR, hQ⟩ := enter3 w [.bool n1, .slice o1 l1 c1, .slice p1 m1 k1, .bool n2, .slice o2 l2 c2, .slice p2 m2 k2] [.bool false, .slice none 0 0, .slice none 0 0, .bool false, .slice none 0 0, .slice none 0 0] [.bool false, .slice none 0 0, .slice none 0 0, .bool false, .slice none 0 0, .slice none 0 0] 30 30 30
 have HX : Hid (RatAt W n1 o1 l1 c1 p1 m1 k1 a ∧ RatAt W n2 o2 l2 c2 p2 m2 k2 b ∧ TabAt 0 Lib.deBruijn64tab W) := ⟨hx.later hbW, hy.later hbW, tab_later hT0 hbW⟩
 have HC : Hid (Sz a 200 ∧ Sz b 200 ∧ cmpQ a b ≤ 0) := ⟨ha, hb, hc⟩
 have HM : Hid (Sz ((a + b) * half2) 1000) := ((ha.add hb).mul sz_half2).mono (by decide)
 clear hx hy ha hb hc hT0
 go_enter Tryz.func24, Tryz.ntmps24
 go_upto_region 5 with (first
  | (go_at_call 16; rw [← hW]; refine (scheck_good n1 n2 o1 p1 o2 p2 l1 c1 m1 k1 l2 c2 m2 k2 a b _ HX.out.1 HX.out.2.1 (HC.out.1.mono (by decide)) (HC.out.2.1.mono (by decide)) HC.out.2.2 HX.out.2.2).mono ?_; rintro e w1 ⟨rfl, hb1⟩; have ub := hA.later hb1 (by omega); have u0 := ub.1 0 _ rfl; have u1 := ub.1 1 _ rfl; have u2 := ub.1 2 _ rfl; have u3 := ub.1 3 _ rfl; have u4 := ub.1 4 _ rfl; have u5 := ub.1 5 _ rfl; clear ub)
  | (go_at_call 57; refine (mid_rat n1 n2 o1 p1 o2 p2 l1 c1 m1 k1 l2 c2 m2 k2 a b _ (HX.out.1.later hb1) (HX.out.2.1.later hb1) HC.out.1 HC.out.2.1 (tab_later HX.out.2.2 hb1)).mono ?_; rintro e y ⟨n3, o3, l3, c3, p3, m3, k3, rfl, hs, ho, hp, _, hb⟩; have H3 : Hid (RatAt y n3 o3 l3 c3 p3 m3 k3 ((a + b) * half2) ∧ Below W.heap.size W y) := ⟨⟨ho.int hs, hp.row⟩, bnext hb1 hb⟩; clear hs ho hp hb hb1 u0 u1 u2 u3 u4 u5))
 clear hW
 obtain ⟨r6, hr6⟩ : ∃ r, r = y.heap.size := ⟨_, rfl⟩
 have hst : Below y.heap.size y (y.alloc (.cells #[.bool n3, .slice o3 l3 c3, .slice p3 m3 k3] 28)) := (Below.refl _ _).alloc (Nat.le_refl _) _
 have HY : Hid (Below W.heap.size W (y.alloc (.cells #[.bool n3, .slice o3 l3 c3, .slice p3 m3 k3] 28)) ∧ Bx (y.alloc (.cells #[.bool n3, .slice o3 l3 c3, .slice p3 m3 k3] 28)) r6 [.bool n3, .slice o3 l3 c3, .slice p3 m3 k3] ∧ RatAt (y.alloc (.cells #[.bool n3, .slice o3 l3 c3, .slice p3 m3 k3] 28)) n3 o3 l3 c3 p3 m3 k3 ((a + b) * half2) ∧ W.heap.size ≤ r6) := ⟨bnext H3.out.2 hst, (by rw [hr6]; exact Bx.new _ _ _), H3.out.1.later hst, (by rw [hr6]; exact H3.out.2.size)⟩
 rw [← hr6]
 clear H3 hst hr6
 generalize y.alloc (.cells #[.bool n3, .slice o3 l3 c3, .slice p3 m3 k3] 28) = Y at *
 have hzY := HY.out.1.size
 have hz6 := HY.out.2.2.2
 have hlt6 := HY.out.2.1.lt
 have KY : Hid (∀ w' : World, Below Y.heap.size Y w' → w'.cell? ⟨w.heap.size, 0, none⟩ = some (.bool n1) ∧ w'.cell? ⟨w.heap.size, 1, none⟩ = some (.slice o1 l1 c1) ∧ w'.cell? ⟨w.heap.size, 2, none⟩ = some (.slice p1 m1 k1) ∧ w'.cell? ⟨w.heap.size, 3, none⟩ = some (.bool n2) ∧ w'.cell? ⟨w.heap.size, 4, none⟩ = some (.slice o2 l2 c2) ∧ w'.cell? ⟨w.heap.size, 5, none⟩ = some (.slice p2 m2 k2) ∧ w'.cell? ⟨r6, 0, none⟩ = some (.bool n3) ∧ w'.cell? ⟨r6, 1, none⟩ = some (.slice o3 l3 c3) ∧ w'.cell? ⟨r6, 2, none⟩ = some (.slice p3 m3 k3)) := fun w' h => ⟨((hA.later HY.out.1 (by omega)).later h (by omega)).1 0 _ rfl, ((hA.later HY.out.1 (by omega)).later h (by omega)).1 1 _ rfl, ((hA.later HY.out.1 (by omega)).later h (by omega)).1 2 _ rfl, ((hA.later HY.out.1 (by omega)).later h (by omega)).1 3 _ rfl, ((hA.later HY.out.1 (by omega)).later h (by omega)).1 4 _ rfl, ((hA.later HY.out.1 (by omega)).later h (by omega)).1 5 _ rfl, ((HY.out.2.1).later h (by omega)).1 0 _ rfl, ((HY.out.2.1).later h (by omega)).1 1 _ rfl, ((HY.out.2.1).later h (by omega)).1 2 _ rfl⟩
 have KR : Hid (∀ X : World, Below Y.heap.size Y X → ∀ vs, (fun w' : World => w'.cell? ⟨w.heap.size, 0, none⟩ = some (.bool n1) ∧ w'.cell? ⟨w.heap.size, 1, none⟩ = some (.slice o1 l1 c1) ∧ w'.cell? ⟨w.heap.size, 2, none⟩ = some (.slice p1 m1 k1) ∧ w'.cell? ⟨w.heap.size, 3, none⟩ = some (.bool n2) ∧ w'.cell? ⟨w.heap.size, 4, none⟩ = some (.slice o2 l2 c2) ∧ w'.cell? ⟨w.heap.size, 5, none⟩ = some (.slice p2 m2 k2) ∧ w'.cell? ⟨r6, 0, none⟩ = some (.bool n3) ∧ w'.cell? ⟨r6, 1, none⟩ = some (.slice o3 l3 c3) ∧ w'.cell? ⟨r6, 2, none⟩ = some (.slice p3 m3 k3)) (putl X (w.heap.size + 1) 0 vs)) := fun X h vs => by
  obtain ⟨h0, h1, h2, h3, h4, h5, h6, h7, h8⟩ := KY.out X h
  exact ⟨(putl_off (by omega) vs 0 X).trans h0, (putl_off (by omega) vs 0 X).trans h1, (putl_off (by omega) vs 0 X).trans h2, (putl_off (by omega) vs 0 X).trans h3, (putl_off (by omega) vs 0 X).trans h4, (putl_off (by omega) vs 0 X).trans h5, (putl_off (by omega) vs 0 X).trans h6, (putl_off (by omega) vs 0 X).trans h7, (putl_off (by omega) vs 0 X).trans h8⟩
 have KQ : Hid (∀ X : World, Below Y.heap.size Y X → ∀ vs us, (fun w' : World => w'.cell? ⟨w.heap.size, 0, none⟩ = some (.bool n1) ∧ w'.cell? ⟨w.heap.size, 1, none⟩ = some (.slice o1 l1 c1) ∧ w'.cell? ⟨w.heap.size, 2, none⟩ = some (.slice p1 m1 k1) ∧ w'.cell? ⟨w.heap.size, 3, none⟩ = some (.bool n2) ∧ w'.cell? ⟨w.heap.size, 4, none⟩ = some (.slice o2 l2 c2) ∧ w'.cell? ⟨w.heap.size, 5, none⟩ = some (.slice p2 m2 k2) ∧ w'.cell? ⟨r6, 0, none⟩ = some (.bool n3) ∧ w'.cell? ⟨r6, 1, none⟩ = some (.slice o3 l3 c3) ∧ w'.cell? ⟨r6, 2, none⟩ = some (.slice p3 m3 k3)) (putl (putl X (w.heap.size + 1) 0 vs) (w.heap.size + 1 + 1) 0 us)) := fun X h vs us => by
  obtain ⟨h0, h1, h2, h3, h4, h5, h6, h7, h8⟩ := KR.out X h vs
  exact ⟨(putl_off (by omega) us 0 _).trans h0, (putl_off (by omega) us 0 _).trans h1, (putl_off (by omega) us 0 _).trans h2, (putl_off (by omega) us 0 _).trans h3, (putl_off (by omega) us 0 _).trans h4, (putl_off (by omega) us 0 _).trans h5, (putl_off (by omega) us 0 _).trans h6, (putl_off (by omega) us 0 _).trans h7, (putl_off (by omega) us 0 _).trans h8⟩
 refine wp_region_noPanic ?_
 refine wp_region_held_drew (S := fun w' => (w'.cell? ⟨w.heap.size, 0, none⟩ = some (.bool n1) ∧ w'.cell? ⟨w.heap.size, 1, none⟩ = some (.slice o1 l1 c1) ∧ w'.cell? ⟨w.heap.size, 2, none⟩ = some (.slice p1 m1 k1) ∧ w'.cell? ⟨w.heap.size, 3, none⟩ = some (.bool n2) ∧ w'.cell? ⟨w.heap.size, 4, none⟩ = some (.slice o2 l2 c2) ∧ w'.cell? ⟨w.heap.size, 5, none⟩ = some (.slice p2 m2 k2) ∧ w'.cell? ⟨r6, 0, none⟩ = some (.bool n3) ∧ w'.cell? ⟨r6, 1, none⟩ = some (.slice o3 l3 c3) ∧ w'.cell? ⟨r6, 2, none⟩ = some (.slice p3 m3 k3))) (by kernel_rfl) (by (try dsimp only); exact KY.out _ (Below.refl _ _).drew) (fun hHeld => ?_)
 refine wpAnyH_take (i := 0) (oi := Oper.mk (some 19) _ _ _ _ _) (v := ?_) rfl (by kernel_rfl) (by kernel_rfl) (by kernel_rfl) (fun _ _ _ h => h) (Or.inl ⟨by rfl, ?_⟩) (by assumption) ?_
 rotate_left
 ·
  (intro w hSw; (try dsimp only at hSw); go_simp <;> (try with_reducible rfl))
 (try simp only [Act.put, List.setIfInBounds_toArray, List.set_cons_zero, List.set_cons_succ])
 refine wpAnyH_take (i := 1) (oi := Oper.mk (some 20) _ _ _ _ _) (v := ?_) rfl (by kernel_rfl) (by kernel_rfl) (by kernel_rfl) (fun _ _ _ h => h) (Or.inl ⟨by rfl, ?_⟩) (by assumption) ?_
 rotate_left
 ·
  (intro w hSw; (try dsimp only at hSw); go_simp <;> (try with_reducible rfl))
 (try simp only [Act.put, List.setIfInBounds_toArray, List.set_cons_zero, List.set_cons_succ])
 refine wpAnyH_take (i := 2) (oi := Oper.mk (some 21) _ _ _ _ _) (v := ?_) rfl (by kernel_rfl) (by kernel_rfl) (by kernel_rfl) (fun _ _ _ h => h) (Or.inl ⟨by rfl, ?_⟩) (by assumption) ?_
 rotate_left
 ·
  (intro w hSw; (try dsimp only at hSw); go_simp <;> (try with_reducible rfl))
 (try simp only [Act.put, List.setIfInBounds_toArray, List.set_cons_zero, List.set_cons_succ])
 refine wpAnyH_take (i := 4) (oi := Oper.mk (some 23) _ _ _ _ _) (v := ?_) rfl (by kernel_rfl) (by kernel_rfl) (by kernel_rfl) (fun _ _ _ h => h) (Or.inl ⟨by rfl, ?_⟩) (by assumption) ?_
 rotate_left
 ·
  (intro w hSw; (try dsimp only at hSw); go_simp <;> (try with_reducible rfl))
 (try simp only [Act.put, List.setIfInBounds_toArray, List.set_cons_zero, List.set_cons_succ])
 refine wpAnyH_take (i := 5) (oi := Oper.mk (some 24) _ _ _ _ _) (v := ?_) rfl (by kernel_rfl) (by kernel_rfl) (by kernel_rfl) (fun _ _ _ h => h) (Or.inl ⟨by rfl, ?_⟩) (by assumption) ?_
 rotate_left
 ·
  (intro w hSw; (try dsimp only at hSw); go_simp <;> (try with_reducible rfl))
 (try simp only [Act.put, List.setIfInBounds_toArray, List.set_cons_zero, List.set_cons_succ])
 refine wpAnyH_take (i := 6) (oi := Oper.mk (some 25) _ _ _ _ _) (v := ?_) rfl (by kernel_rfl) (by kernel_rfl) (by kernel_rfl) (fun _ _ _ h => h) (Or.inl ⟨by rfl, ?_⟩) (by assumption) ?_
 rotate_left
 ·
  (intro w hSw; (try dsimp only at hSw); go_simp <;> (try with_reducible rfl))
 (try simp only [Act.put, List.setIfInBounds_toArray, List.set_cons_zero, List.set_cons_succ])
 refine wpAnyH_ready (rs := [3]) (by kernel_rfl) (by simp) ?_
 refine AllReadyH.cons (o := Oper.mk (some 22) _ _ _ _ _) rfl (fun K hK => ?_) AllReadyH.nil
 go_simp
 (go_at_call 56; refine (sbetween_any n1 n3 o1 p1 o3 p3 l1 c1 m1 k1 l3 c3 m3 k3 a ((a + b) * half2) _ (HX.out.1.later (bnext HY.out.1 (Below.refl _ _).drew)) (HY.out.2.2.1.later (Below.refl _ _).drew) (HC.out.1.mono (by decide)) (HM.out.mono (by decide))).mono ?_; rintro e f1 ⟨n5, o5, l5, c5, p5, m5, k5, n6, o6, l6, c6, p6, m6, k6, rfl, hn⟩; have hb := hn.2.2.2; have H1 : Hid (NewSp Y f1 n5 n6 o5 p5 o6 p6 l5 c5 m5 k5 l6 c6 m6 k6 a ((a + b) * half2)) := ⟨hn.1, hn.2.1, hn.2.2.1, bnext (Below.refl _ _).drew hb⟩; clear hn; have hbF1 : Below Y.heap.size Y f1 := bnext (Below.refl _ _).drew hb; clear hb)
 (try go_wp2_with fail)
 clear hHeld
 refine hK.out _ _ (by (try dsimp only); first | exact KY.out _ (Below.refl _ _).drew | exact KY.out _ (by assumption)) (fun hHeld => ?_)
 clear hK K
 (try simp only [Act.put, List.setIfInBounds_toArray, List.set_cons_zero, List.set_cons_succ])
 refine wpAnyH_ready (rs := [7]) (by kernel_rfl) (by simp) ?_
 refine AllReadyH.cons (o := Oper.mk (some 26) _ _ _ _ _) rfl (fun K hK => ?_) AllReadyH.nil
 go_simp
 (go_at_call 56; refine (sbetween_any n3 n2 o3 p3 o2 p2 l3 c3 m3 k3 l2 c2 m2 k2 ((a + b) * half2) b _ (HY.out.2.2.1.later hbF1) (HX.out.2.1.later (bnext HY.out.1 hbF1)) (HM.out.mono (by decide)) (HC.out.2.1.mono (by decide))).mono ?_; rintro e f2 ⟨n7, o7, l7, c7, p7, m7, k7, n8, o8, l8, c8, p8, m8, k8, rfl, hn⟩; have hb := hn.2.2.2; have H2 : Hid (NewSp f1 f2 n7 n8 o7 p7 o8 p8 l7 c7 m7 k7 l8 c8 m8 k8 ((a + b) * half2) b) := hn; clear hn; have hbF2 : Below Y.heap.size Y f2 := bnext hbF1 hb; clear hb)
 (try go_wp2_with fail)
 clear hHeld
 refine hK.out _ _ (by (try dsimp only); first | exact KY.out _ (Below.refl _ _).drew | exact KY.out _ (by assumption)) (fun hHeld => ?_)
 clear hK K
 (try simp only [Act.put, List.setIfInBounds_toArray, List.set_cons_zero, List.set_cons_succ])
 have hbW2 := bnext HY.out.1 hbF2
 have hF := hR.later hbW2 (by omega); have g6 := hF.2; have g0 := hF.1 0 _ rfl; have g1 := hF.1 1 _ rfl; have g2 := hF.1 2 _ rfl; have g3 := hF.1 3 _ rfl; have g4 := hF.1 4 _ rfl; have g5 := hF.1 5 _ rfl; clear hF
 have hF := hQ.later hbW2 (by omega); have k9 := hF.2; have q0 := hF.1 0 _ rfl; have q1 := hF.1 1 _ rfl; have q2 := hF.1 2 _ rfl; have q3 := hF.1 3 _ rfl; have q4 := hF.1 4 _ rfl; have q5 := hF.1 5 _ rfl; clear hF
 refine wpAnyH_ready (rs := [8]) (by kernel_rfl) (by simp) ?_
 refine AllReadyH.cons (o := Oper.mk none _ _ _ _ _) rfl (fun K hK => ?_) AllReadyH.nil
 go_simp
 clear hHeld
 refine hK.out _ _ (by (try dsimp only); exact KR.out _ hbF2 [.bool n5, .slice o5 l5 c5, .slice p5 m5 k5, .bool n6, .slice o6 l6 c6, .slice p6 m6 k6]) (fun hHeld => ?_)
 clear hK K
 (try simp only [Act.put, List.setIfInBounds_toArray, List.set_cons_zero, List.set_cons_succ])
 refine wpAnyH_ready (rs := [9]) (by kernel_rfl) (by simp) ?_
 refine AllReadyH.cons (o := Oper.mk none _ _ _ _ _) rfl (fun K hK => ?_) AllReadyH.nil
 go_simp
 clear hHeld
 refine hK.out _ _ (by (try dsimp only); exact KQ.out _ hbF2 [.bool n5, .slice o5 l5 c5, .slice p5 m5 k5, .bool n6, .slice o6 l6 c6, .slice p6 m6 k6] [.bool n7, .slice o7 l7 c7, .slice p7 m7 k7, .bool n8, .slice o8 l8 c8, .slice p8 m8 k8]) (fun hHeld => ?_)
 clear hK K
 (try simp only [Act.put, List.setIfInBounds_toArray, List.set_cons_zero, List.set_cons_succ])
 refine wpAnyH_take (i := 10) (oi := Oper.mk (some 4) _ _ _ _ _) (v := ?_) rfl (by kernel_rfl) (by kernel_rfl) (by kernel_rfl) (fun _ _ _ h => h) (Or.inl ⟨by rfl, ?_⟩) (by assumption) ?_
 rotate_left
 ·
  (intro w hSw; (try dsimp only at hSw); go_simp <;> (try with_reducible rfl))
 (try simp only [Act.put, List.setIfInBounds_toArray, List.set_cons_zero, List.set_cons_succ])
 refine wpAnyH_done (by kernel_rfl) ?_ _
 refine NoPanic.normal ?_
 go_wp2
 have hz1 := hbF1.size
 have h21 := H2.out.2.2.2
 have N1 : Hid (NewSp W f2 n5 n6 o5 p5 o6 p6 l5 c5 m5 k5 l6 c6 m6 k6 a ((a + b) * half2)) := ⟨⟨H1.out.1.1, (H1.out.1.2.1.later h21).mono (by omega), (H1.out.1.2.2.1.later h21).mono (by omega), H1.out.1.2.2.2⟩, ⟨H1.out.2.1.1, (H1.out.2.1.2.1.later h21).mono (by omega), (H1.out.2.1.2.2.1.later h21).mono (by omega), H1.out.2.1.2.2.2⟩, H1.out.2.2.1, hbW2⟩
 have N2 : Hid (NewSp W f2 n7 n8 o7 p7 o8 p8 l7 c7 m7 k7 l8 c8 m8 k8 ((a + b) * half2) b) := ⟨⟨H2.out.1.1, H2.out.1.2.1.mono (by omega), H2.out.1.2.2.1.mono (by omega), H2.out.1.2.2.2⟩, ⟨H2.out.2.1.1, H2.out.2.1.2.1.mono (by omega), H2.out.2.1.2.2.1.mono (by omega), H2.out.2.1.2.2.2⟩, H2.out.2.2.1, hbW2⟩
 exact bodyPost_ret (v := .tuple #[.agg #[.bool n5, .slice o5 l5 c5, .slice p5 m5 k5, .bool n6, .slice o6 l6 c6, .slice p6 m6 k6], .agg #[.bool n7, .slice o7 l7 c7, .slice p7 m7 k7, .bool n8, .slice o8 l8 c8, .slice p8 m8 k8], .int .i64 0]) (by simp [results, Tryz.results24, go_sem, g0, g1, g2, g3, g4, g5, q0, q1, q2, q3, q4, q5]) rfl
  ⟨_, _, _, _, _, _, _, _, _, _, _, _, _, _, _, _, _, _, _, _, _, _, _, _, _, _, _, _, rfl, (⟨⟨N1.out.1.1, (putl_own (r := w.heap.size + 1 + 1) (by omega) [.bool n7, .slice o7 l7 c7, .slice p7 m7 k7, .bool n8, .slice o8 l8 c8, .slice p8 m8 k8] 0 _ (putl_own (r := w.heap.size + 1) (by omega) [.bool n5, .slice o5 l5 c5, .slice p5 m5 k5, .bool n6, .slice o6 l6 c6, .slice p6 m6 k6] 0 _ N1.out.1.2.1)).mono (by omega), (putl_own (r := w.heap.size + 1 + 1) (by omega) [.bool n7, .slice o7 l7 c7, .slice p7 m7 k7, .bool n8, .slice o8 l8 c8, .slice p8 m8 k8] 0 _ (putl_own (r := w.heap.size + 1) (by omega) [.bool n5, .slice o5 l5 c5, .slice p5 m5 k5, .bool n6, .slice o6 l6 c6, .slice p6 m6 k6] 0 _ N1.out.1.2.2.1)).mono (by omega), N1.out.1.2.2.2⟩, ⟨N1.out.2.1.1, (putl_own (r := w.heap.size + 1 + 1) (by omega) [.bool n7, .slice o7 l7 c7, .slice p7 m7 k7, .bool n8, .slice o8 l8 c8, .slice p8 m8 k8] 0 _ (putl_own (r := w.heap.size + 1) (by omega) [.bool n5, .slice o5 l5 c5, .slice p5 m5 k5, .bool n6, .slice o6 l6 c6, .slice p6 m6 k6] 0 _ N1.out.2.1.2.1)).mono (by omega), (putl_own (r := w.heap.size + 1 + 1) (by omega) [.bool n7, .slice o7 l7 c7, .slice p7 m7 k7, .bool n8, .slice o8 l8 c8, .slice p8 m8 k8] 0 _ (putl_own (r := w.heap.size + 1) (by omega) [.bool n5, .slice o5 l5 c5, .slice p5 m5 k5, .bool n6, .slice o6 l6 c6, .slice p6 m6 k6] 0 _ N1.out.2.1.2.2.1)).mono (by omega), N1.out.2.1.2.2.2⟩, N1.out.2.2.1, putl_below (r := w.heap.size + 1 + 1) (by omega) [.bool n7, .slice o7 l7 c7, .slice p7 m7 k7, .bool n8, .slice o8 l8 c8, .slice p8 m8 k8] 0 _ (putl_below (r := w.heap.size + 1) (by omega) [.bool n5, .slice o5 l5 c5, .slice p5 m5 k5, .bool n6, .slice o6 l6 c6, .slice p6 m6 k6] 0 _ (bnext hbW hbW2))⟩), (⟨⟨N2.out.1.1, (putl_own (r := w.heap.size + 1 + 1) (by omega) [.bool n7, .slice o7 l7 c7, .slice p7 m7 k7, .bool n8, .slice o8 l8 c8, .slice p8 m8 k8] 0 _ (putl_own (r := w.heap.size + 1) (by omega) [.bool n5, .slice o5 l5 c5, .slice p5 m5 k5, .bool n6, .slice o6 l6 c6, .slice p6 m6 k6] 0 _ N2.out.1.2.1)).mono (by omega), (putl_own (r := w.heap.size + 1 + 1) (by omega) [.bool n7, .slice o7 l7 c7, .slice p7 m7 k7, .bool n8, .slice o8 l8 c8, .slice p8 m8 k8] 0 _ (putl_own (r := w.heap.size + 1) (by omega) [.bool n5, .slice o5 l5 c5, .slice p5 m5 k5, .bool n6, .slice o6 l6 c6, .slice p6 m6 k6] 0 _ N2.out.1.2.2.1)).mono (by omega), N2.out.1.2.2.2⟩, ⟨N2.out.2.1.1, (putl_own (r := w.heap.size + 1 + 1) (by omega) [.bool n7, .slice o7 l7 c7, .slice p7 m7 k7, .bool n8, .slice o8 l8 c8, .slice p8 m8 k8] 0 _ (putl_own (r := w.heap.size + 1) (by omega) [.bool n5, .slice o5 l5 c5, .slice p5 m5 k5, .bool n6, .slice o6 l6 c6, .slice p6 m6 k6] 0 _ N2.out.2.1.2.1)).mono (by omega), (putl_own (r := w.heap.size + 1 + 1) (by omega) [.bool n7, .slice o7 l7 c7, .slice p7 m7 k7, .bool n8, .slice o8 l8 c8, .slice p8 m8 k8] 0 _ (putl_own (r := w.heap.size + 1) (by omega) [.bool n5, .slice o5 l5 c5, .slice p5 m5 k5, .bool n6, .slice o6 l6 c6, .slice p6 m6 k6] 0 _ N2.out.2.1.2.2.1)).mono (by omega), N2.out.2.1.2.2.2⟩, N2.out.2.2.1, putl_below (r := w.heap.size + 1 + 1) (by omega) [.bool n7, .slice o7 l7 c7, .slice p7 m7 k7, .bool n8, .slice o8 l8 c8, .slice p8 m8 k8] 0 _ (putl_below (r := w.heap.size + 1) (by omega) [.bool n5, .slice o5 l5 c5, .slice p5 m5 k5, .bool n6, .slice o6 l6 c6, .slice p6 m6 k6] 0 _ (bnext hbW hbW2))⟩)⟩
theorem stimes_any (n1 n2 : Bool) (o1 p1 o2 p2 : Option Addr) (l1 c1 m1 k1 l2 c2 m2 k2 : Nat) (a b : Rat) (w : World) (hx : RatAt w n1 o1 l1 c1 p1 m1 k1 a) (hy : RatAt w n2 o2 l2 c2 p2 m2 k2 b) (ha : Sz a 1000) (hb : Sz b 1000) (hT0 : TabAt 0 Lib.deBruijn64tab w) :
  Calls Tryz.prog 51 #[.agg #[.bool n1, .slice o1 l1 c1, .slice p1 m1 k1], .agg #[.bool n2, .slice o2 l2 c2, .slice p2 m2 k2]] w fun e w' => SomeR w w' e (a * b) := by
 obtain ⟨W, hW, hsz, hbW, hA, hB, hR⟩ := enter3 w [.bool n1, .slice o1 l1 c1, .slice p1 m1 k1] [.bool n2, .slice o2 l2 c2, .slice p2 m2 k2] [.bool false, .slice none 0 0, .slice none 0 0] 28 28 28
 have HX : Hid (RatAt W n1 o1 l1 c1 p1 m1 k1 a ∧ RatAt W n2 o2 l2 c2 p2 m2 k2 b ∧ TabAt 0 Lib.deBruijn64tab W) := ⟨hx.later hbW, hy.later hbW, tab_later hT0 hbW⟩
 have HC : Hid (Sz a 1000 ∧ Sz b 1000) := ⟨ha, hb⟩
 clear hx hy ha hb hT0
 go_enter Tryz.func51, Tryz.ntmps51
 go_upto_region 2 with (go_at_call 89; rw [← hW]; refine (mul_rat n1 n2 o1 p1 o2 p2 l1 c1 m1 k1 l2 c2 m2 k2 a b _ HX.out.1 HX.out.2.1 HC.out.1 HC.out.2 HX.out.2.2).mono ?_; rintro e y ⟨n3, o3, l3, c3, p3, m3, k3, rfl, hs, ho, hp, _, hb⟩; have H3 : Hid (RatAt y n3 o3 l3 c3 p3 m3 k3 (a * b) ∧ Below W.heap.size W y) := ⟨⟨ho.int hs, hp.row⟩, hb⟩; clear hs ho hp hb)
 clear hW
 obtain ⟨r6, hr6⟩ : ∃ r, r = y.heap.size := ⟨_, rfl⟩
 have hst : Below y.heap.size y (y.alloc (.cells #[.bool n3, .slice o3 l3 c3, .slice p3 m3 k3] 28)) := (Below.refl _ _).alloc (Nat.le_refl _) _
 have HY : Hid (Below W.heap.size W (y.alloc (.cells #[.bool n3, .slice o3 l3 c3, .slice p3 m3 k3] 28)) ∧ Bx (y.alloc (.cells #[.bool n3, .slice o3 l3 c3, .slice p3 m3 k3] 28)) r6 [.bool n3, .slice o3 l3 c3, .slice p3 m3 k3] ∧ RatAt (y.alloc (.cells #[.bool n3, .slice o3 l3 c3, .slice p3 m3 k3] 28)) n3 o3 l3 c3 p3 m3 k3 (a * b)) := ⟨bnext H3.out.2 hst, (by rw [hr6]; exact Bx.new _ _ _), H3.out.1.later hst⟩
 rw [← hr6]
 clear H3 hst hr6
 generalize y.alloc (.cells #[.bool n3, .slice o3 l3 c3, .slice p3 m3 k3] 28) = Y at *
 have e0 := HY.out.2.1.1 0 _ rfl; have e1 := HY.out.2.1.1 1 _ rfl; have e2 := HY.out.2.1.1 2 _ rfl
 have hF := hR.later HY.out.1 (by omega); have g5 := hF.2; have g2 := hF.1 0 _ rfl; have g3 := hF.1 1 _ rfl; have g4 := hF.1 2 _ rfl; clear hF
 go_wp2
 exact bodyPost_ret (v := .agg #[.bool n3, .slice o3 l3 c3, .slice p3 m3 k3]) (by simp [results, Tryz.results51, go_sem, g2, g3, g4]) rfl
  ⟨_, _, _, _, _, _, _, rfl, rat_kept HY.out.2.2 ⟨g2, g3, g4⟩, below_store3 (bnext hbW HY.out.1) (by omega) _ _ _⟩
end Go.Proofs.YthgnaceokcaieaaGreatDoor
