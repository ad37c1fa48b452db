/-
  A pack of walks and facts: RW, HI, SD, SE.
-/
import Derived.Test.YtiiefpnkpfliiaaGreatDoorPC18
import Derived.Test.YtiiefpnkpfliiaaGreatDoorPC19
import Derived.Test.YtiiefpnkpfliiaaGreatDoorPC23
set_option maxRecDepth 100000
set_option maxHeartbeats 40000000
set_option linter.unusedVariables false
set_option linter.unusedSimpArgs false
namespace Go.Proofs.YtiiefpnkpfliiaaGreatDoor
open Go.RowKit
theorem two2_any (na nb : Bool) (ao po bo qo : Option Addr) (la ca lp cp lb cb lq cq : Nat) (N : Int) (x d y f : List Int) (w : World) (hx : RowAt w .u64 ao la ca x) (wx : Wd 18446744073709551616 x) (hd : RowAt w .u64 po lp cp d) (wd : Wd 18446744073709551616 d) (hy : RowAt w .u64 bo lb cb y) (wy : Wd 18446744073709551616 y) (hf : RowAt w .u64 qo lq cq f) (wf : Wd 18446744073709551616 f) (hla : la ≤ 16777216) (hlp : lp ≤ 16777216) (hlb : lb ≤ 16777216) (hlq : lq ≤ 16777216) (c : Int) (hc : (if mayR na x d && mayR nb y f then 0 else 20 : Int) = c) :
  Calls Tryz.prog 27 #[.agg #[.bool na, .slice ao la ca, .slice po lp cp, .bool nb, .slice bo lb cb, .slice qo lq cq, .int .i64 N]] w fun e w' => e = .returned (.int .i64 c) ∧ Below w.heap.size w w' := by
 obtain ⟨W, hT⟩ := InR.mk' w na nb ao po bo qo la ca lp cp lb cb lq cq N
 have hsz := hT.size
 have RX : Hid (RowAt W .u64 ao la ca x ∧ RowAt W .u64 po lp cp d) := ⟨hx.later hT.below, hd.later hT.below⟩
 have RY : Hid (RowAt W .u64 bo lb cb y ∧ RowAt W .u64 qo lq cq f) := ⟨hy.later hT.below, hf.later hT.below⟩
 clear hx hd hy hf
 cases h1 : mayR na x d
 ·
  obtain rfl : c = 20 := by rw [← hc, h1]; rfl
  have H1 : Hid (mayR na x d = false) := h1
  clear h1 hc
  go_enter Tryz.func27, Tryz.ntmps27
  go_wp2_with (go_at_call 7; rw [← hT.eq]; refine (qmay_any na ao po la ca lp cp x d _ RX.out.1 wx RX.out.2 wd hla hlp false H1.out).mono ?_; rintro e w1 ⟨rfl, hb1⟩; obtain ⟨q0, q1, q2, q3, q4, q5, q6⟩ := hT.p.later hb1 (by omega))
  go_ret
  exact ⟨rfl, bnext hT.below hb1⟩
 ·
  have H1 : Hid (mayR na x d = true) := h1
  cases h2 : mayR nb y f
  ·
   obtain rfl : c = 20 := by rw [← hc, h1, h2]; rfl
   have H2 : Hid (mayR nb y f = false) := h2
   clear h1 h2 hc
   go_enter Tryz.func27, Tryz.ntmps27
   go_wp2_with (first
    | (go_at_call 7; have _t := hb1; refine (qmay_any nb bo qo lb cb lq cq y f _ (RY.out.1.later hb1) wy (RY.out.2.later hb1) wf hlb hlq false H2.out).mono ?_; rintro e w2 ⟨rfl, hb2⟩)
    | (go_at_call 7; rw [← hT.eq]; refine (qmay_any na ao po la ca lp cp x d _ RX.out.1 wx RX.out.2 wd hla hlp true H1.out).mono ?_; rintro e w1 ⟨rfl, hb1⟩; obtain ⟨q0, q1, q2, q3, q4, q5, q6⟩ := hT.p.later hb1 (by omega)))
   go_ret
   exact ⟨rfl, bnext hT.below (bnext hb1 hb2)⟩
  ·
   obtain rfl : c = 0 := by rw [← hc, h1, h2]; rfl
   have H2 : Hid (mayR nb y f = true) := h2
   clear h1 h2 hc
   go_enter Tryz.func27, Tryz.ntmps27
   go_wp2_with (first
    | (go_at_call 7; have _t := hb1; refine (qmay_any nb bo qo lb cb lq cq y f _ (RY.out.1.later hb1) wy (RY.out.2.later hb1) wf hlb hlq true H2.out).mono ?_; rintro e w2 ⟨rfl, hb2⟩)
    | (go_at_call 7; rw [← hT.eq]; refine (qmay_any na ao po la ca lp cp x d _ RX.out.1 wx RX.out.2 wd hla hlp true H1.out).mono ?_; rintro e w1 ⟨rfl, hb1⟩; obtain ⟨q0, q1, q2, q3, q4, q5, q6⟩ := hT.p.later hb1 (by omega)))
   go_ret
   exact ⟨rfl, bnext hT.below (bnext hb1 hb2)⟩
def Stay2 (ao po : Option Addr) (w w' : World) : Prop := ∀ k, k < w.heap.size → (∀ p : Addr, ao = some p → p.block ≠ k) → (∀ p : Addr, po = some p → p.block ≠ k) → w'.heap[k]? = w.heap[k]?
theorem Stay2.of {ao po : Option Addr} {w w1 w2 : World} (h1 : Stay ao w w1) (h2 : Stay po w1 w2) : Stay2 ao po w w2 := fun k hk ha hp => (h2.block k (Nat.lt_of_lt_of_le hk h1.size) hp).trans (h1.block k hk ha)
theorem Stay2.after {ao po : Option Addr} {w w' w2 : World} (hb : Below w.heap.size w w') (h : Stay2 ao po w' w2) : Stay2 ao po w w2 := fun k hk ha hp => (h k (Nat.lt_of_lt_of_le hk hb.size) ha hp).trans (hb.block k hk)
theorem own_stays {B : Nat} {w w' : World} {ao bo : Option Addr} {len cap : Nat} {zs : List Int} (h : Own B w .u64 59 bo len cap zs) (hs : Stay ao w w') (hp : Parted ao bo) : Own B w' .u64 59 bo len cap zs := by
 rcases h with h | ⟨g, off, L, rfl, h2, h3, h4⟩
 ·
  exact Or.inl h
 ·
  exact Or.inr ⟨g, off, L, rfl, h2, by rw [hs.block g (heap_lt h3) (fun p hp' e => hp p ⟨g, off, none⟩ hp' rfl e)]; exact h3, h4⟩
theorem spoilR_any (B : Nat) (na : Bool) (ao po : Option Addr) (la ca lp cp : Nat) (zs ds : List Int) (w : World) (ho : Own B w .u64 59 ao la ca zs) (hp : Own B w .u64 59 po lp cp ds) (hpt : Parted ao po) (hB : B ≤ w.heap.size) (hl : la ≤ 1073741824) (hl' : lp ≤ 1073741824) :
  Calls Tryz.prog 83 #[.agg #[.bool na, .slice ao la ca, .slice po lp cp]] w fun e w' => e = .returned (.tuple #[]) ∧ Below B w w' ∧ Stay2 ao po w w' ∧ w.heap.size ≤ w'.heap.size := by
 obtain ⟨W, hW⟩ := ROne1.mk' w na ao po la ca lp cp
 have hsz := hW.size
 have HO : Hid (Own B W .u64 59 ao la ca zs ∧ Own B W .u64 59 po lp cp ds ∧ Parted ao po) := ⟨ho.later hW.below, hp.later hW.below, hpt⟩
 have hne : ∀ p : Addr, ao = some p → p.block ≠ w.heap.size := fun p hp e => by
  rcases ho with ⟨h, _⟩ | ⟨g, off, L, h1, h2, h3, h4⟩
  ·
   rw [h] at hp; cases hp
  ·
   rw [h1] at hp; cases hp
   have := heap_lt h3
   exact absurd e (by show g ≠ _; omega)
 have HN : Hid (∀ p : Addr, ao = some p → p.block ≠ w.heap.size) := hne
 clear ho hp hpt hne
 go_enter Tryz.func83, Tryz.ntmps83
 go_wp2_with (first
  | (go_at_call 118; rw [← hW.eq]; refine (spoil_any B na ao la ca zs _ HO.out.1 (by omega) (by omega)).mono ?_; rintro e w1 ⟨rfl, hb1, hs1⟩; have p2 := (hs1.cell (r := w.heap.size) (j := 2) (by omega) HN.out).trans hW.a.2.2; have HS1 : Hid (Stay ao W w1) := hs1; have hz1 := hs1.size; clear hs1)
  | (go_at_call 119; refine (words_any B po lp cp ds _ (own_stays HO.out.2.1 HS1.out HO.out.2.2) (by omega) (by omega)).mono ?_; rintro e w2 ⟨rfl, hb2, hs2⟩))
 go_end0
 exact ⟨rfl, (below_less hW.below hB).trans (hb1.trans hb2), Stay2.after hW.below (Stay2.of HS1.out hs2), by have := hs2.size; omega⟩
def IsTrue2 (B : Nat) (ao po : Option Addr) (w w' : World) (e : Ending) : Prop := e = .returned (.bool true) ∧ Below B w w' ∧ Stay2 ao po w w' ∧ w.heap.size ≤ w'.heap.size
theorem is2_good (B : Nat) (n1 n2 : Bool) (o1 p1 o2 p2 : Option Addr) (l1 c1 m1 d1 l2 c2 m2 d2 : Nat) (a : Rat) (w : World) (hs : n1 = sgB a.num) (ho : Own B w .u64 59 o1 l1 c1 (mag a.num.natAbs)) (hp : Own B w .u64 59 p1 m1 d1 (mag a.den)) (hpt : Parted o1 p1) (hB : B ≤ w.heap.size) (hy : RatAt w n2 o2 l2 c2 p2 m2 d2 a) (hl : l1 ≤ 1073741824) (hl' : m1 ≤ 1073741824) :
  Calls Tryz.prog 37 #[.agg #[.bool n1, .slice o1 l1 c1, .slice p1 m1 d1], .int .i64 0, .int .i64 0, .agg #[.bool n2, .slice o2 l2 c2, .slice p2 m2 d2]] w fun e w' => IsTrue2 B o1 p1 w w' e := by
 obtain ⟨W, hW⟩ := RTwo2.mk' w n1 n2 o1 p1 o2 p2 l1 c1 m1 d1 l2 c2 m2 d2
 have hsz := hW.size
 have HO : Hid (RatAt W n1 o1 l1 c1 p1 m1 d1 a ∧ RatAt W n2 o2 l2 c2 p2 m2 d2 a ∧ Own B W .u64 59 o1 l1 c1 (mag a.num.natAbs) ∧ Own B W .u64 59 p1 m1 d1 (mag a.den) ∧ Parted o1 p1) := ⟨⟨(ho.later hW.below).int hs, (hp.later hW.below).row⟩, hy.later hW.below, ho.later hW.below, hp.later hW.below, hpt⟩
 clear hs ho hp hy hpt
 go_enter Tryz.func37, Tryz.ntmps37
 go_wp2_with (first
  | (go_at_call 9; rw [← hW.eq]; refine (num2_any 0 _).mono ?_; rintro e w1 ⟨rfl, hw1⟩; replace hw1 := hw1.symm; subst hw1; obtain ⟨p0, p1', p2'⟩ := hW.a; obtain ⟨q0, q1, q2⟩ := hW.b)
  | (go_at_call 14; refine (eqrat_same n1 n2 o1 p1 o2 p2 l1 c1 m1 d1 l2 c2 m2 d2 a _ HO.out.1 HO.out.2.1 hl hl').mono ?_; rintro e w2 ⟨rfl, hb2⟩; clear p0 p1' p2' q0 q1 q2; obtain ⟨p0, p1', p2'⟩ := hW.a.later hb2 (by omega))
  | (go_at_call 83; refine (spoilR_any B n1 o1 p1 l1 c1 m1 d1 _ _ _ (HO.out.2.2.1.later hb2) (HO.out.2.2.2.1.later hb2) HO.out.2.2.2.2 (by have := hb2.size; omega) hl hl').mono ?_; rintro e w3 ⟨rfl, hb3, hs3, hz3⟩))
 go_ret
 exact ⟨rfl, (below_less (bnext hW.below hb2) hB).trans hb3, Stay2.after (bnext hW.below hb2) hs3, by have := (bnext hW.below hb2).size; omega⟩
theorem is2_bad (n2 : Bool) (o2 p2 : Option Addr) (l2 c2 m2 d2 : Nat) (c : Int) (w : World) (hc : c ≠ 0) :
  Calls Tryz.prog 37 #[.agg #[.bool false, .slice none 0 0, .slice none 0 0], .int .i64 c, .int .i64 c, .agg #[.bool n2, .slice o2 l2 c2, .slice p2 m2 d2]] w fun e w' => e = .returned (.bool true) ∧ Below w.heap.size w w' := by
 obtain ⟨W, hW⟩ := RTwo2.mk' w false n2 none none o2 p2 0 0 0 0 l2 c2 m2 d2
 have hsz := hW.size
 have hc' : ¬ c = 0 := hc
 clear hc
 go_enter Tryz.func37, Tryz.ntmps37
 go_wp2_with (first
  | (go_at_call 9; rw [← hW.eq]; refine (num2_any c _).mono ?_; rintro e w1 ⟨rfl, hw1⟩; replace hw1 := hw1.symm; subst hw1; obtain ⟨p0, p1', p2'⟩ := hW.a)
  | (go_at_call 14; refine (eqraw_same false none none none none 0 0 0 0 0 0 0 0 [] [] _ (RowAt.nilRow _ _) (RowAt.nilRow _ _) (RowAt.nilRow _ _) (RowAt.nilRow _ _) (by omega) (by omega)).mono ?_; rintro e w2 ⟨rfl, hb2⟩))
 go_ret
 exact ⟨rfl, bnext hW.below hb2⟩
def OneW (U wx : World) (r : Nat) (v : Int) : Prop := ∃ n o l c, Boxed wx r n o l c ∧ (∀ j, wx.frozen? ⟨r, j, none⟩ = false) ∧ (r < wx.heap.size ∧ U.heap.size ≤ r) ∧ IntAt wx n o l c v ∧ Below U.heap.size U wx
theorem ow_a {U y : World} {n : Bool} {o : Option Addr} {l c : Nat} {v : Int} (hO : Hid (IntAt y n o l c v)) (hb : Below U.heap.size U y) : OneW U (y.alloc (.cells #[.bool n, .slice o l c] 26)) y.heap.size v := by
 have hA : Below y.heap.size y (y.alloc (.cells #[.bool n, .slice o l c] 26)) := (Below.refl _ _).alloc (Nat.le_refl _) _
 exact ⟨n, o, l, c, ⟨by simp [go_sem], by simp [go_sem]⟩, fun j => by simp [go_sem], ⟨by simp, hb.size⟩, hO.out.later hA, below_alloc hb (Nat.le_refl _)⟩
theorem ow_b {U y : World} {n : Bool} {o : Option Addr} {l c r : Nat} {v : Int} (hO : Hid (IntAt y n o l c v)) (hb : Below U.heap.size U y) (hF : Fresh y r) (hU : U.heap.size ≤ r) : OneW U ((y.setCell ⟨r, 0, none⟩ (.bool n)).setCell ⟨r, 1, none⟩ (.slice o l c)) r v :=
 ⟨n, o, l, c, boxed_new ⟨hF.2.1, hF.2.2⟩, fun j => by rw [frozen_off, frozen_off]; exact hF.1 j, ⟨by simpa [World.setCell] using cell_lt hF.2.1, hU⟩, ⟨hO.out.sg, hO.out.row.boxed ⟨hF.2.1, hF.2.2⟩ _ _⟩, below_store hb hU _ _⟩
theorem ow_c {U Y y : World} {n n' : Bool} {o o' : Option Addr} {l c l' c' r : Nat} {v : Int} (hO : Hid (IntAt y n o l c v)) (h0 : Below U.heap.size U Y) (hb : Below Y.heap.size Y y) (hF : Boxed Y r n' o' l' c') (hf : ∀ j, Y.frozen? ⟨r, j, none⟩ = false) (hr : r < Y.heap.size) (hU : U.heap.size ≤ r) : OneW U ((y.setCell ⟨r, 0, none⟩ (.bool n)).setCell ⟨r, 1, none⟩ (.slice o l c)) r v :=
 ⟨n, o, l, c, boxed_new (hF.later hb hr), fun j => by rw [frozen_off, frozen_off]; exact (hb.frozen (p := ⟨r, j, none⟩) hr).trans (hf j), ⟨by have := hb.size; simp [World.setCell]; omega, hU⟩, ⟨hO.out.sg, hO.out.row.boxed (hF.later hb hr) _ _⟩, below_store (bnext h0 hb) hU _ _⟩
theorem qover_any (na nb : Bool) (ao po bo qo : Option Addr) (la ca lp cp lb cb lq cq : Nat) (a b : Rat) (w : World) (hx : RatAt w na ao la ca po lp cp a) (hy : RatAt w nb bo lb cb qo lq cq b) (ha : Sz a 1000) (hb : Sz b 1000) (hb0 : b ≠ 0) :
  Calls Tryz.prog 88 #[.agg #[.bool na, .slice ao la ca, .slice po lp cp], .agg #[.bool nb, .slice bo lb cb, .slice qo lq cq]] w fun e w' => SomeR w w' e (a / b) := by
 obtain ⟨W, hT⟩ := RTwo3.mk' w na nb ao po bo qo la ca lp cp lb cb lq cq
 have hsz : w.heap.size + 3 ≤ W.heap.size := by rw [hT.size]; exact Nat.le_refl _
 have HX : Hid (RatAt W na ao la ca po lp cp a ∧ RatAt W nb bo lb cb qo lq cq b) := ⟨hx.later hT.below, hy.later hT.below⟩
 have hla : la ≤ 1000 := (hx.len ha).1
 have hlp : lp ≤ 1000 := (hx.len ha).2
 have hlb : lb ≤ 1000 := (hy.len hb).1
 have hlq : lq ≤ 1000 := (hy.len hb).2
 have KW : Hid (∀ w' : World, Below W.heap.size W w' → (Below W.heap.size W w' ∧ w'.cell? ⟨w.heap.size, 0, none⟩ = some (.bool na) ∧ w'.cell? ⟨w.heap.size, 1, none⟩ = some (.slice ao la ca) ∧ w'.cell? ⟨w.heap.size, 2, none⟩ = some (.slice po lp cp) ∧ w'.cell? ⟨w.heap.size + 1, 0, none⟩ = some (.bool nb) ∧ w'.cell? ⟨w.heap.size + 1, 1, none⟩ = some (.slice bo lb cb) ∧ w'.cell? ⟨w.heap.size + 1, 2, none⟩ = some (.slice qo lq cq))) := fun w' h => ⟨h, (h.cell (p := ⟨w.heap.size, 0, none⟩) (by show w.heap.size < _; omega)).trans hT.a.1, (h.cell (p := ⟨w.heap.size, 1, none⟩) (by show w.heap.size < _; omega)).trans hT.a.2.1, (h.cell (p := ⟨w.heap.size, 2, none⟩) (by show w.heap.size < _; omega)).trans hT.a.2.2, (h.cell (p := ⟨w.heap.size + 1, 0, none⟩) (by show w.heap.size + 1 < _; omega)).trans hT.b.1, (h.cell (p := ⟨w.heap.size + 1, 1, none⟩) (by show w.heap.size + 1 < _; omega)).trans hT.b.2.1, (h.cell (p := ⟨w.heap.size + 1, 2, none⟩) (by show w.heap.size + 1 < _; omega)).trans hT.b.2.2⟩
 have HF : Hid (Fresh3 W (w.heap.size + 1 + 1) ∧ Below w.heap.size w W) := ⟨hT.r, hT.below⟩
 have HL : Hid ((mag (a.num * (b.den : Int)).natAbs).length ≤ 3000 ∧ (mag (a.den * b.num.natAbs)).length ≤ 3000) := by
  have h2 := mul_len a.num (b.den : Int)
  have h4 := mag_len_mul a.den b.num.natAbs
  rw [Int.natAbs_natCast] at h2
  have := ha.1; have := ha.2; have := hb.1; have := hb.2
  refine ⟨?_, ?_⟩ <;> omega
 have h0 : a.den * b.num.natAbs ≠ 0 := Nat.mul_ne_zero a.den_nz (fun e => hb0 (Rat.num_eq_zero.1 (Int.natAbs_eq_zero.1 e)))
 have HD : Hid (a / b = Rat.normalize (if b.num < 0 then -(a.num * (b.den : Int)) else a.num * (b.den : Int)) (a.den * b.num.natAbs) h0) := rdiv_mk a b hb0 h0
 have HS : Hid (nb = sgB b.num) := hy.num.sg
 clear hx hy ha hb
 go_enter Tryz.func88, Tryz.ntmps88
 go_upto_region 1 with fail
 rw [← hT.eq]
 clear hT
 go_cut [5] (fun s5 wx => ∃ r5, s5 = .pointer (some ⟨r5, 0, none⟩) ∧ OneW W wx r5 (a.num * (b.den : Int)))
 case first => as_aux_lemma =>
  have hzU : W.heap.size ≤ W.drew.heap.size := Nat.le_refl _
  have S0 : Step8 0 := ⟨trivial⟩
  go_region_held3 (fun w' => (Below W.heap.size W w' ∧ w'.cell? ⟨w.heap.size, 0, none⟩ = some (.bool na) ∧ w'.cell? ⟨w.heap.size, 1, none⟩ = some (.slice ao la ca) ∧ w'.cell? ⟨w.heap.size, 2, none⟩ = some (.slice po lp cp) ∧ w'.cell? ⟨w.heap.size + 1, 0, none⟩ = some (.bool nb) ∧ w'.cell? ⟨w.heap.size + 1, 1, none⟩ = some (.slice bo lb cb) ∧ w'.cell? ⟨w.heap.size + 1, 2, none⟩ = some (.slice qo lq cq)))
   (with_reducible (first | exact KW.out _ (Below.refl _ _).drew | exact KW.out _ (by assumption) | (refine KW.out _ ?_; (repeat (first | refine below_alloc ?_ (Nat.le_refl _) | refine Below.drew ?_ | refine below_set ?_ (by omega))); (first | exact hbF2 | exact hbF1 | exact Below.refl _ _))))
   (first
    | (have _t := S0; go_at_call 69; refine with_held (S := fun w9 => Below W.heap.size W w9) (by show Below _ _ _; with_reducible ((repeat (first | refine below_alloc ?_ (Nat.le_refl _) | refine Below.drew ?_ | refine below_set ?_ (by omega))); (first | exact hbF2 | exact hbF1 | exact Below.refl _ _))) (fun hS => ?_); (first | (with_reducible refine with_held (S := fun w9 => Fresh w9 W.heap.size) (Fresh.drew' (Fresh.new W)) (fun FA => ?_)) | skip); refine (qden_any nb bo qo lb cb lq cq _ (by omega)).mono ?_; rintro e f1 ⟨rfl, hb⟩; skip; have hbF1 : Below W.heap.size W f1 := bnext hS hb; have hzF1 := hbF1.size; (try clear hltA); (try (have hltA := cell_lt FA.2.1; dsimp only at hltA; replace FA := Fresh.next FA hb)); clear hS hb S0; have S1 : Step8 1 := ⟨trivial⟩)
    | (have _t := S1; go_at_call 71; refine with_held (S := fun w9 => Below W.heap.size W w9) (by show Below _ _ _; with_reducible ((repeat (first | refine below_alloc ?_ (Nat.le_refl _) | refine Below.drew ?_ | refine below_set ?_ (by omega))); (first | exact hbF2 | exact hbF1 | exact Below.refl _ _))) (fun hS => ?_); refine with_held (S := fun w9 => Below f1.heap.size f1 w9) (by show Below _ _ _; with_reducible ((repeat (refine below_alloc ?_ (Nat.le_refl _))); exact Below.refl _ _)) (fun hS2 => ?_); (first | (with_reducible refine with_held (S := fun w9 => Fresh w9 f1.heap.size) (Fresh.new f1) (fun FA => ?_)) | skip); refine (rtimes_any na false ao qo la ca lq cq a.num (b.den : Int) _ (HX.out.1.num.later hS) (row_int (HX.out.2.den.later hS)) (by omega) (by omega)).mono ?_; rintro e f2 ⟨n1, o1, l1, c1, rfl, hs, ho, hb⟩; have HO : Hid (IntAt f2 n1 o1 l1 c1 (a.num * (b.den : Int))) := ho.int hs; clear hs ho; have hbF2 : Below W.heap.size W f2 := bnext hS hb; have hzF2 := hbF2.size; (try clear hltA); (try (have hltA := cell_lt FA.2.1; dsimp only at hltA; replace FA := Fresh.next FA hb)); (try (obtain ⟨a5, a3, a4⟩ := FA)); clear hS hb S1; clear hS2; skip))
  all_goals go_wp2
  all_goals go_meet
  all_goals refine ⟨_, rfl, ?_⟩
  all_goals (first
   | (with_reducible exact ow_a HO hbF2)
   | ((with_reducible refine ow_b HO hbF2 ?_ ?_) <;> (first | (with_reducible exact fresh_mk a5 a3 a4) | omega)))
 case rest => as_aux_lemma =>
  obtain ⟨r5, rfl, n8, o8, l8, c8, hbx8, hf8, ⟨hr5, hr5W⟩, hi8, hbV⟩ := hcut
  obtain ⟨Y, hY⟩ : ∃ Z0, Z0 = wc := ⟨_, rfl⟩
  subst hY
  cases nb
  ·
   as_aux_lemma =>
   have HV : Hid (a / b = Rat.normalize (a.num * (b.den : Int)) (a.den * b.num.natAbs) h0) := by
    have h1 := HD.out
    simp only [if_neg (show ¬ b.num < 0 from of_decide_eq_false HS.out.symm)] at h1
    exact h1
   obtain ⟨kh0, kh1, kh2, kh3, kh4, kh5, kh6⟩ := KW.out Y hbV
   go_upto_region 4 with fail
   clear kh0 kh1 kh2 kh3 kh4 kh5 kh6
   obtain ⟨z0, z1⟩ := hbx8
   have hsY := hbV.size
   have HY : Hid (RatAt Y na ao la ca po lp cp a ∧ RatAt Y false bo lb cb qo lq cq b ∧ IntAt Y n8 o8 l8 c8 (a.num * (b.den : Int)) ∧ Fresh3 Y (w.heap.size + 1 + 1) ∧ Below w.heap.size w Y) := ⟨HX.out.1.later hbV, HX.out.2.later hbV, hi8, HF.out.1.later hbV (by omega), bnext HF.out.2 hbV⟩
   have hl8 : l8 ≤ 3000 := by rw [hi8.row.hlen]; exact HL.out.1
   have KY : Hid (∀ w' : World, Below Y.heap.size Y w' → (w'.cell? ⟨w.heap.size, 0, none⟩ = some (.bool na) ∧ w'.cell? ⟨w.heap.size, 1, none⟩ = some (.slice ao la ca) ∧ w'.cell? ⟨w.heap.size, 2, none⟩ = some (.slice po lp cp) ∧ w'.cell? ⟨w.heap.size + 1, 0, none⟩ = some (.bool false) ∧ w'.cell? ⟨w.heap.size + 1, 1, none⟩ = some (.slice bo lb cb) ∧ w'.cell? ⟨w.heap.size + 1, 2, none⟩ = some (.slice qo lq cq) ∧ w'.cell? ⟨r5, 0, none⟩ = some (.bool n8) ∧ w'.cell? ⟨r5, 1, none⟩ = some (.slice o8 l8 c8))) := fun w' h => by
    obtain ⟨h0, h1, h2, h3, h4, h5, h6⟩ := KW.out w' (bnext hbV h)
    exact ⟨h1, h2, h3, h4, h5, h6, (h.cell (p := ⟨r5, 0, none⟩) hr5).trans z0, (h.cell (p := ⟨r5, 1, none⟩) hr5).trans z1⟩
   have KS : Hid (∀ X : World, Below Y.heap.size Y X → ∀ x y z, (fun w' : World => w'.cell? ⟨w.heap.size, 0, none⟩ = some (.bool na) ∧ w'.cell? ⟨w.heap.size, 1, none⟩ = some (.slice ao la ca) ∧ w'.cell? ⟨w.heap.size, 2, none⟩ = some (.slice po lp cp) ∧ w'.cell? ⟨w.heap.size + 1, 0, none⟩ = some (.bool false) ∧ w'.cell? ⟨w.heap.size + 1, 1, none⟩ = some (.slice bo lb cb) ∧ w'.cell? ⟨w.heap.size + 1, 2, none⟩ = some (.slice qo lq cq) ∧ w'.cell? ⟨r5, 0, none⟩ = some (.bool n8) ∧ w'.cell? ⟨r5, 1, none⟩ = some (.slice o8 l8 c8)) (((X.setCell ⟨w.heap.size + 1 + 1, 0, none⟩ x).setCell ⟨w.heap.size + 1 + 1, 1, none⟩ y).setCell ⟨w.heap.size + 1 + 1, 2, none⟩ z)) := fun X h x y z => by
    have hr5W : w.heap.size + 1 + 1 < r5 := by omega
    obtain ⟨h1, h2, h3, h4, h5, h6, y1, y2⟩ := KY.out X h
    have off : ∀ (b j : Nat), b ≠ w.heap.size + 1 + 1 → (((X.setCell ⟨w.heap.size + 1 + 1, 0, none⟩ x).setCell ⟨w.heap.size + 1 + 1, 1, none⟩ y).setCell ⟨w.heap.size + 1 + 1, 2, none⟩ z).cell? ⟨b, j, none⟩ = X.cell? ⟨b, j, none⟩ := fun b j hn => by rw [cell_off hn, cell_off hn, cell_off hn]
    dsimp only
    rw [off _ _ (by omega), off _ _ (by omega), off _ _ (by omega), off _ _ (by omega), off _ _ (by omega), off _ _ (by omega), off _ _ (by omega), off _ _ (by omega)]
    exact ⟨h1, h2, h3, h4, h5, h6, y1, y2⟩
   have hrY : w.heap.size + 1 + 1 < Y.heap.size := by omega
   clear hi8 hbV
   have hzU : Y.heap.size ≤ Y.drew.heap.size := Nat.le_refl _
   have S0 : Step8 0 := ⟨trivial⟩
   go_region_held3 (fun w' => (w'.cell? ⟨w.heap.size, 0, none⟩ = some (.bool na) ∧ w'.cell? ⟨w.heap.size, 1, none⟩ = some (.slice ao la ca) ∧ w'.cell? ⟨w.heap.size, 2, none⟩ = some (.slice po lp cp) ∧ w'.cell? ⟨w.heap.size + 1, 0, none⟩ = some (.bool false) ∧ w'.cell? ⟨w.heap.size + 1, 1, none⟩ = some (.slice bo lb cb) ∧ w'.cell? ⟨w.heap.size + 1, 2, none⟩ = some (.slice qo lq cq) ∧ w'.cell? ⟨r5, 0, none⟩ = some (.bool n8) ∧ w'.cell? ⟨r5, 1, none⟩ = some (.slice o8 l8 c8)))
    (with_reducible (first | exact KS.out _ hbF2 _ _ _ | exact KY.out _ (Below.refl _ _).drew | exact KY.out _ (by assumption) | (refine KY.out _ ?_; (repeat (first | refine below_alloc ?_ (Nat.le_refl _) | refine Below.drew ?_ | refine below_set ?_ (by omega))); (first | exact hbF2 | exact hbF1 | exact Below.refl _ _))))
    (first
     | (have _t := S0; go_at_call 90; refine with_held (S := fun w9 => Below Y.heap.size Y w9) (by show Below _ _ _; with_reducible ((repeat (first | refine below_alloc ?_ (Nat.le_refl _) | refine Below.drew ?_ | refine below_set ?_ (by omega))); (first | exact hbF2 | exact hbF1 | exact Below.refl _ _))) (fun hS => ?_); refine (ntimes_any po bo lp cp lb cb a.den b.num.natAbs _ (HY.out.1.den.later hS) (HY.out.2.1.num.row.later hS) (by omega) (by omega)).mono ?_; rintro e f1 ⟨o4, l4, c4, rfl, ho, hb⟩; have H1 : Hid (RowAt f1 .u64 o4 l4 c4 (mag (a.den * b.num.natAbs))) := ho.row; have hl4 : l4 ≤ 3000 := (by rw [ho.row.hlen]; exact HL.out.2); clear ho; have hbF1 : Below Y.heap.size Y f1 := bnext hS hb; have hzF1 := hbF1.size; clear hS hb S0; have S1 : Step8 1 := ⟨trivial⟩)
     | (have _t := S1; go_at_call 36; refine with_held (S := fun w9 => Below Y.heap.size Y w9) (by show Below _ _ _; with_reducible ((repeat (first | refine below_alloc ?_ (Nat.le_refl _) | refine Below.drew ?_ | refine below_set ?_ (by omega))); (first | exact hbF2 | exact hbF1 | exact Below.refl _ _))) (fun hS => ?_); refine with_held (S := fun w9 => Below f1.heap.size f1 w9) (by show Below _ _ _; with_reducible ((repeat (refine below_alloc ?_ (Nat.le_refl _))); exact Below.refl _ _)) (fun hS2 => ?_); refine (qmake_any n8 o8 o4 l8 c8 l4 c4 (a.num * (b.den : Int)) (a.den * b.num.natAbs) _ (HY.out.2.2.1.later hS) (H1.out.later hS2) h0 (by omega) (by omega) (a / b) HV.out).mono ?_; rintro e f2 ⟨nz, oz, lz, cz, pz, mz, dz, rfl, hz, hb⟩; have HZ : Hid (RatAt f2 nz oz lz cz pz mz dz (a / b) ∧ Below Y.heap.size Y f2) := ⟨hz, bnext hS hb⟩; clear hz; obtain ⟨k5, k2, k3, k4⟩ := HY.out.2.2.2.1.later (bnext hS hb) hrY; have hbF2 : Below Y.heap.size Y f2 := bnext hS hb; have hzF2 := hbF2.size; clear hS hb S1; clear hS2; skip))
   all_goals go_wp2
   exact bodyPost_ret (v := .agg #[.bool nz, .slice oz lz cz, .slice pz mz dz]) (by simp [results, Tryz.results88, go_sem, k2, k3, k4]) rfl
    ⟨_, _, _, _, _, _, _, rfl, rat_kept HZ.out.1 ⟨k2, k3, k4⟩, below_store3 (bnext HY.out.2.2.2.2 HZ.out.2) (by omega) _ _ _⟩
  ·
   as_aux_lemma =>
   have HV : Hid (a / b = Rat.normalize (-(a.num * (b.den : Int))) (a.den * b.num.natAbs) h0) := by
    have h1 := HD.out
    simp only [if_pos (show b.num < 0 from of_decide_eq_true HS.out.symm)] at h1
    exact h1
   obtain ⟨kh0, kh1, kh2, kh3, kh4, kh5, kh6⟩ := KW.out Y hbV
   have hsY := hbV.size
   go_upto_region 3 with fail
   go_cut [15] (fun s15 wx => OneW W wx r5 (-(a.num * (b.den : Int))))
   case first => as_aux_lemma =>
    obtain ⟨z0, z1⟩ := hbx8
    have HB : Hid (Boxed Y r5 n8 o8 l8 c8 ∧ (∀ j, Y.frozen? ⟨r5, j, none⟩ = false) ∧ IntAt Y n8 o8 l8 c8 (a.num * (b.den : Int)) ∧ l8 ≤ 3000 ∧ Below W.heap.size W Y) := ⟨⟨z0, z1⟩, hf8, hi8, by rw [hi8.row.hlen]; exact HL.out.1, hbV⟩
    clear hf8 hi8 hbV
    go_wp2_with (go_at_call 66; refine (rneg_any n8 o8 l8 c8 (a.num * (b.den : Int)) _ HB.out.2.2.1 (by have := HB.out.2.2.2.1; omega)).mono ?_; rintro e y5 ⟨n5, o5, l5, c5, rfl, hi5, hb5⟩; have HO : Hid (IntAt y5 n5 o5 l5 c5 (-(a.num * (b.den : Int))) ∧ Below Y.heap.size Y y5) := ⟨hi5, hb5⟩; clear hi5; clear z0 z1; obtain ⟨z0, z1⟩ := HB.out.1.later hb5 hr5; have z5 : ∀ j, y5.frozen? ⟨r5, j, none⟩ = false := (fun j => (hb5.frozen (p := ⟨r5, j, none⟩) hr5).trans (HB.out.2.1 j)); clear hb5)
    go_meet
    exact ow_c HO.out.1 HB.out.2.2.2.2 HO.out.2 HB.out.1 HB.out.2.1 hr5 hr5W
   case rest => as_aux_lemma =>
    clear hbx8 hf8 hr5 hr5W hi8
    obtain ⟨n8, o8, l8, c8, hbx8, hf8, ⟨hr5, hr5W⟩, hi8, hbV⟩ := hcut
    obtain ⟨Q, hQ⟩ : ∃ Z0, Z0 = wc := ⟨_, rfl⟩
    subst hQ
    obtain ⟨z0, z1⟩ := hbx8
    have hsQ := hbV.size
    have HQ : Hid (RatAt Q na ao la ca po lp cp a ∧ RatAt Q true bo lb cb qo lq cq b ∧ IntAt Q n8 o8 l8 c8 (-(a.num * (b.den : Int))) ∧ Fresh3 Q (w.heap.size + 1 + 1) ∧ Below w.heap.size w Q) := ⟨HX.out.1.later hbV, HX.out.2.later hbV, hi8, HF.out.1.later hbV (by omega), bnext HF.out.2 hbV⟩
    have hl8 : l8 ≤ 3000 := by rw [hi8.row.hlen]; exact (by rw [Int.natAbs_neg]; exact HL.out.1)
    have KQ : Hid (∀ w' : World, Below Q.heap.size Q w' → (w'.cell? ⟨w.heap.size, 0, none⟩ = some (.bool na) ∧ w'.cell? ⟨w.heap.size, 1, none⟩ = some (.slice ao la ca) ∧ w'.cell? ⟨w.heap.size, 2, none⟩ = some (.slice po lp cp) ∧ w'.cell? ⟨w.heap.size + 1, 0, none⟩ = some (.bool true) ∧ w'.cell? ⟨w.heap.size + 1, 1, none⟩ = some (.slice bo lb cb) ∧ w'.cell? ⟨w.heap.size + 1, 2, none⟩ = some (.slice qo lq cq) ∧ w'.cell? ⟨r5, 0, none⟩ = some (.bool n8) ∧ w'.cell? ⟨r5, 1, none⟩ = some (.slice o8 l8 c8))) := fun w' h => by
     obtain ⟨h0, h1, h2, h3, h4, h5, h6⟩ := KW.out w' (bnext hbV h)
     exact ⟨h1, h2, h3, h4, h5, h6, (h.cell (p := ⟨r5, 0, none⟩) hr5).trans z0, (h.cell (p := ⟨r5, 1, none⟩) hr5).trans z1⟩
    have KS : Hid (∀ X : World, Below Q.heap.size Q X → ∀ x y z, (fun w' : World => w'.cell? ⟨w.heap.size, 0, none⟩ = some (.bool na) ∧ w'.cell? ⟨w.heap.size, 1, none⟩ = some (.slice ao la ca) ∧ w'.cell? ⟨w.heap.size, 2, none⟩ = some (.slice po lp cp) ∧ w'.cell? ⟨w.heap.size + 1, 0, none⟩ = some (.bool true) ∧ w'.cell? ⟨w.heap.size + 1, 1, none⟩ = some (.slice bo lb cb) ∧ w'.cell? ⟨w.heap.size + 1, 2, none⟩ = some (.slice qo lq cq) ∧ w'.cell? ⟨r5, 0, none⟩ = some (.bool n8) ∧ w'.cell? ⟨r5, 1, none⟩ = some (.slice o8 l8 c8)) (((X.setCell ⟨w.heap.size + 1 + 1, 0, none⟩ x).setCell ⟨w.heap.size + 1 + 1, 1, none⟩ y).setCell ⟨w.heap.size + 1 + 1, 2, none⟩ z)) := fun X h x y z => by
     have hr5W : w.heap.size + 1 + 1 < r5 := by omega
     obtain ⟨h1, h2, h3, h4, h5, h6, y1, y2⟩ := KQ.out X h
     have off : ∀ (b j : Nat), b ≠ w.heap.size + 1 + 1 → (((X.setCell ⟨w.heap.size + 1 + 1, 0, none⟩ x).setCell ⟨w.heap.size + 1 + 1, 1, none⟩ y).setCell ⟨w.heap.size + 1 + 1, 2, none⟩ z).cell? ⟨b, j, none⟩ = X.cell? ⟨b, j, none⟩ := fun b j hn => by rw [cell_off hn, cell_off hn, cell_off hn]
     dsimp only
     rw [off _ _ (by omega), off _ _ (by omega), off _ _ (by omega), off _ _ (by omega), off _ _ (by omega), off _ _ (by omega), off _ _ (by omega), off _ _ (by omega)]
     exact ⟨h1, h2, h3, h4, h5, h6, y1, y2⟩
    have hrQ : w.heap.size + 1 + 1 < Q.heap.size := by omega
    clear hi8 hbV
    go_upto_region 4 with fail
    have hzU : Q.heap.size ≤ Q.drew.heap.size := Nat.le_refl _
    have S0 : Step8 0 := ⟨trivial⟩
    go_region_held3 (fun w' => (w'.cell? ⟨w.heap.size, 0, none⟩ = some (.bool na) ∧ w'.cell? ⟨w.heap.size, 1, none⟩ = some (.slice ao la ca) ∧ w'.cell? ⟨w.heap.size, 2, none⟩ = some (.slice po lp cp) ∧ w'.cell? ⟨w.heap.size + 1, 0, none⟩ = some (.bool true) ∧ w'.cell? ⟨w.heap.size + 1, 1, none⟩ = some (.slice bo lb cb) ∧ w'.cell? ⟨w.heap.size + 1, 2, none⟩ = some (.slice qo lq cq) ∧ w'.cell? ⟨r5, 0, none⟩ = some (.bool n8) ∧ w'.cell? ⟨r5, 1, none⟩ = some (.slice o8 l8 c8)))
     (with_reducible (first | exact KS.out _ hbF2 _ _ _ | exact KQ.out _ (Below.refl _ _).drew | exact KQ.out _ (by assumption) | (refine KQ.out _ ?_; (repeat (first | refine below_alloc ?_ (Nat.le_refl _) | refine Below.drew ?_ | refine below_set ?_ (by omega))); (first | exact hbF2 | exact hbF1 | exact Below.refl _ _))))
     (first
      | (have _t := S0; go_at_call 90; refine with_held (S := fun w9 => Below Q.heap.size Q w9) (by show Below _ _ _; with_reducible ((repeat (first | refine below_alloc ?_ (Nat.le_refl _) | refine Below.drew ?_ | refine below_set ?_ (by omega))); (first | exact hbF2 | exact hbF1 | exact Below.refl _ _))) (fun hS => ?_); refine (ntimes_any po bo lp cp lb cb a.den b.num.natAbs _ (HQ.out.1.den.later hS) (HQ.out.2.1.num.row.later hS) (by omega) (by omega)).mono ?_; rintro e f1 ⟨o4, l4, c4, rfl, ho, hb⟩; have H1 : Hid (RowAt f1 .u64 o4 l4 c4 (mag (a.den * b.num.natAbs))) := ho.row; have hl4 : l4 ≤ 3000 := (by rw [ho.row.hlen]; exact HL.out.2); clear ho; have hbF1 : Below Q.heap.size Q f1 := bnext hS hb; have hzF1 := hbF1.size; clear hS hb S0; have S1 : Step8 1 := ⟨trivial⟩)
      | (have _t := S1; go_at_call 36; refine with_held (S := fun w9 => Below Q.heap.size Q w9) (by show Below _ _ _; with_reducible ((repeat (first | refine below_alloc ?_ (Nat.le_refl _) | refine Below.drew ?_ | refine below_set ?_ (by omega))); (first | exact hbF2 | exact hbF1 | exact Below.refl _ _))) (fun hS => ?_); refine with_held (S := fun w9 => Below f1.heap.size f1 w9) (by show Below _ _ _; with_reducible ((repeat (refine below_alloc ?_ (Nat.le_refl _))); exact Below.refl _ _)) (fun hS2 => ?_); refine (qmake_any n8 o8 o4 l8 c8 l4 c4 (-(a.num * (b.den : Int))) (a.den * b.num.natAbs) _ (HQ.out.2.2.1.later hS) (H1.out.later hS2) h0 (by omega) (by omega) (a / b) HV.out).mono ?_; rintro e f2 ⟨nz, oz, lz, cz, pz, mz, dz, rfl, hz, hb⟩; have HZ : Hid (RatAt f2 nz oz lz cz pz mz dz (a / b) ∧ Below Q.heap.size Q f2) := ⟨hz, bnext hS hb⟩; clear hz; obtain ⟨k5, k2, k3, k4⟩ := HQ.out.2.2.2.1.later (bnext hS hb) hrQ; have hbF2 : Below Q.heap.size Q f2 := bnext hS hb; have hzF2 := hbF2.size; clear hS hb S1; clear hS2; skip))
    all_goals go_wp2
    exact bodyPost_ret (v := .agg #[.bool nz, .slice oz lz cz, .slice pz mz dz]) (by simp [results, Tryz.results88, go_sem, k2, k3, k4]) rfl
     ⟨_, _, _, _, _, _, _, rfl, rat_kept HZ.out.1 ⟨k2, k3, k4⟩, below_store3 (bnext HQ.out.2.2.2.2 HZ.out.2) (by omega) _ _ _⟩
end Go.Proofs.YtiiefpnkpfliiaaGreatDoor
namespace Go.Proofs.YtiiefpnkpfliiaaGreatDoor
open Go.RowKit
structure RDiv (w Z : World) (na nb nq : Bool) (ao bo qo : Option Addr) (la ca lb cb lq cq g : Nat) (a b q : Int) : Prop where
 ba : Boxed Z w.heap.size na ao la ca
 bb : Boxed Z (w.heap.size + 1) nb bo lb cb
 bq : Boxed Z g nq qo lq cq
 ia : IntAt Z na ao la ca a
 ib : IntAt Z nb bo lb cb b
 iq : IntAt Z nq qo lq cq q
 f1 : Fresh Z (w.heap.size + 1 + 1)
 f2 : Fresh Z (w.heap.size + 1 + 1 + 1)
 bz : Below w.heap.size w Z
 gz : g < Z.heap.size
 gw : w.heap.size + 4 ≤ g
 fq : ∀ j, Z.frozen? ⟨g, j, none⟩ = false
theorem RDiv.first {w W w2 Z : World} {na nb nq : Bool} {ao bo qo : Option Addr} {la ca lb cb lq cq : Nat} {a b : Int} {m : Nat} {neg : Bool} (hT : Two4 w W na nb ao bo la ca lb cb) (hb : Below W.heap.size W w2) (hx : IntAt W na ao la ca a) (hy : IntAt W nb bo lb cb b) (hm : RowAt w2 .u64 qo lq cq (mag m)) (hn : nq = (neg && decide (0 < lq))) (hZ : Z = w2.alloc (.cells #[.bool nq, .slice qo lq cq] 26)) :
  RDiv w Z na nb nq ao bo qo la ca lb cb lq cq w2.heap.size a b (sgn neg m) := by
 have hA : Below w2.heap.size w2 Z := by rw [hZ]; exact (Below.refl _ _).alloc (Nat.le_refl _) _
 have hWZ := bnext hb hA
 have hs := hT.size
 have h2 := hb.size
 refine ⟨hT.a.later hWZ (by omega), hT.b.later hWZ (by omega), ?_, hx.later hWZ, hy.later hWZ, ⟨?_, ?_⟩, hT.r.later hWZ (by omega), hT.r2.later hWZ (by omega), bnext hT.below hWZ, by rw [hZ]; simp, by omega, fun j => by rw [hZ]; simp [go_sem]⟩
 ·
  rw [hZ]; exact ⟨by simp [go_sem], by simp [go_sem]⟩
 ·
  rw [sgB_sgn, hn, hm.hlen]
 ·
  rw [natAbs_sgn]; exact hm.later hA
theorem RDiv.next {w Z w4 : World} {na nb nq n4 : Bool} {ao bo qo ao4 : Option Addr} {la ca lb cb lq cq l4 c4 g : Nat} {a b q q' : Int} (h : RDiv w Z na nb nq ao bo qo la ca lb cb lq cq g a b q) (hb : Below Z.heap.size Z w4) (hi : IntAt w4 n4 ao4 l4 c4 q') :
  RDiv w ((w4.setCell ⟨g, 0, none⟩ (.bool n4)).setCell ⟨g, 1, none⟩ (.slice ao4 l4 c4)) na nb n4 ao bo ao4 la ca lb cb l4 c4 g a b q' := by
 have h1 := h.gw
 have h2 := h.gz
 have hq := h.bq.later hb (by omega)
 have hs := hb.size
 exact ⟨boxed_far (h.ba.later hb (by omega)) (by omega) _ _, boxed_far (h.bb.later hb (by omega)) (by omega) _ _, boxed_new hq, ⟨h.ia.sg, (h.ia.later hb).row.boxed hq _ _⟩, ⟨h.ib.sg, (h.ib.later hb).row.boxed hq _ _⟩, ⟨hi.sg, hi.row.boxed hq _ _⟩, fresh_far (h.f1.later hb (by omega)) (by omega) _ _, fresh_far (h.f2.later hb (by omega)) (by omega) _ _, below_store (bnext h.bz hb) (by omega) _ _, by simp; omega, h1, fun j => by rw [frozen_far, frozen_far, hb.frozen (p := ⟨g, j, none⟩) h2]; exact h.fq j⟩
theorem RDiv.last {w Z w6 : World} {na nb nq n6 : Bool} {ao bo qo ao6 : Option Addr} {la ca lb cb lq cq l6 c6 g : Nat} {a b q r : Int} (h : RDiv w Z na nb nq ao bo qo la ca lb cb lq cq g a b q) (hb : Below Z.heap.size Z w6) (hi : IntAt w6 n6 ao6 l6 c6 r) (v1 v2 v3 v4 : Value) :
  TwoRef w ((((w6.setCell ⟨w.heap.size + 1 + 1, 0, none⟩ v1).setCell ⟨w.heap.size + 1 + 1, 1, none⟩ v2).setCell ⟨w.heap.size + 1 + 1 + 1, 0, none⟩ v3).setCell ⟨w.heap.size + 1 + 1 + 1, 1, none⟩ v4) (.returned (.tuple #[.agg #[.bool nq, .slice qo lq cq], .agg #[.bool n6, .slice ao6 l6 c6]])) q r := by
 have h1 := h.gw
 have h2 := h.gz
 have f1 := h.f1.later hb (by omega)
 have f2 : ∀ x y, Fresh ((w6.setCell ⟨w.heap.size + 1 + 1, 0, none⟩ x).setCell ⟨w.heap.size + 1 + 1, 1, none⟩ y) (w.heap.size + 1 + 1 + 1) := fun x y => fresh_far (h.f2.later hb (by omega)) (by omega) _ _
 exact ⟨_, _, _, _, _, _, _, _, rfl, ⟨h.iq.sg, ((h.iq.later hb).row.kept f1 _ _).kept (f2 _ _) _ _⟩, ⟨hi.sg, (hi.row.kept f1 _ _).kept (f2 _ _) _ _⟩, below_store (below_store (bnext h.bz hb) (by omega) _ _) (by omega) _ _⟩
theorem rdivide_ff (ao bo : Option Addr) (la ca lb cb : Nat) (a b : Int) (w : World) (hx : IntAt w false ao la ca a) (hy : IntAt w false bo lb cb b) (hl : la ≤ 1048576) (hl' : lb ≤ 1048576) (h0 : b ≠ 0) :
  Calls Tryz.prog 68 #[.agg #[.bool false, .slice ao la ca], .agg #[.bool false, .slice bo lb cb]] w fun e w' => ∃ q r, FloorOf a b q r ∧ TwoRef w w' e q r := by
 obtain ⟨W, hT⟩ := Two4.mk' w false false ao bo la ca lb cb
 have hsz := hT.size
 have HF : Hid (FloorOf a b (sgn false (a.natAbs / b.natAbs)) (sgn false (a.natAbs % b.natAbs))) := (floor_math (na := false) (nb := false) hx.sg hy.sg h0).1 (Or.inl rfl)
 have hb0 : 0 < b.natAbs := by omega
 have hRx := hx.later hT.below
 have hRy := hy.later hT.below
 have HG : Hid ((mag (a.natAbs / b.natAbs)).length ≤ la ∧ (mag (a.natAbs % b.natAbs)).length ≤ lb) :=
  ⟨by rw [hx.row.hlen]; exact mag_len_mono (Nat.div_le_self _ _), by rw [hy.row.hlen]; exact mag_len_mono (Nat.le_of_lt (Nat.mod_lt _ hb0))⟩
 clear hx hy
 go_enter Tryz.func68, Tryz.ntmps68
 go_wp2_with (first
  | (go_at_call 81; rw [← hT.eq]; refine (ndivide_any ao bo la ca lb cb a.natAbs b.natAbs _ hRx.row hRy.row (by omega) (by omega) hb0).mono ?_; rintro e w1 ⟨mo, lm, cm, ro, lr, cr, rfl, hM1, hR1, hb1⟩; have hlm : lm ≤ la := (by rw [hM1.hlen]; exact HG.out.1); obtain ⟨p0, p1⟩ := hT.a.later hb1 (by omega); obtain ⟨p2, p3⟩ := hT.b.later hb1 (by omega))
  | (go_at_call 82; refine (made_any false mo lm cm _ (by omega)).mono ?_; rintro e w2 ⟨rfl, hb2⟩; clear p0 p1 p2 p3; have hs1 := hb1.size; have hs2 := hb2.size; have k0 : w.heap.size < w2.heap.size := (by omega); have k1 : w.heap.size + 1 < w2.heap.size := (by omega); have k2 : ¬ w.heap.size = w2.heap.size := (by omega); have k3 : ¬ w.heap.size + 1 = w2.heap.size := (by omega); obtain ⟨p0, p1⟩ := hT.a.later (bnext hb1 hb2) (by omega); obtain ⟨p2, p3⟩ := hT.b.later (bnext hb1 hb2) (by omega)))
 obtain ⟨Z, hZ⟩ : ∃ Z, Z = w2.alloc (.cells #[.bool (false), .slice mo lm cm] 26) := ⟨_, rfl⟩
 rw [← hZ]
 obtain ⟨nq, hnq⟩ : ∃ nq : Bool, nq = (false) := ⟨_, rfl⟩
 have HZ1 : Hid (RDiv w Z false false nq ao bo mo la ca lb cb lm cm w2.heap.size a b (sgn false (a.natAbs / b.natAbs))) := RDiv.first hT (bnext hb1 hb2) hRx hRy (hM1.later hb2) (by rw [hnq]; simp) (by rw [hnq]; exact hZ)
 clear hZ hnq p0 p1 p2 p3 k0 k1 k2 k3 hM1 hR1 hb1 hb2 hs1 hs2 hT hRx hRy
 obtain ⟨g, hg⟩ : ∃ g, w2.heap.size = g := ⟨_, rfl⟩
 rw [hg] at HZ1
 rw [hg]
 clear hg
 have hgw : w.heap.size + 4 ≤ g := HZ1.out.gw
 have hgz : g < Z.heap.size := HZ1.out.gz
 have KS : Hid (∀ w' : World, Below Z.heap.size Z w' → (Below (w.heap.size + 2) Z w' ∧ w'.cell? ⟨w.heap.size, 0, none⟩ = some (.bool false) ∧ w'.cell? ⟨w.heap.size, 1, none⟩ = some (.slice ao la ca) ∧ w'.cell? ⟨w.heap.size + 1, 0, none⟩ = some (.bool false) ∧ w'.cell? ⟨w.heap.size + 1, 1, none⟩ = some (.slice bo lb cb) ∧ w'.cell? ⟨g, 0, none⟩ = some (.bool nq) ∧ w'.cell? ⟨g, 1, none⟩ = some (.slice mo lm cm))) := fun w' h => ⟨h.mono (by omega), (HZ1.out.ba.later h (by omega)).1, (HZ1.out.ba.later h (by omega)).2, (HZ1.out.bb.later h (by omega)).1, (HZ1.out.bb.later h (by omega)).2, (HZ1.out.bq.later h (by omega)).1, (HZ1.out.bq.later h (by omega)).2⟩
 have K1 : Hid (∀ w1 w2 : World, (Below (w.heap.size + 2) Z w1 ∧ w1.cell? ⟨w.heap.size, 0, none⟩ = some (.bool false) ∧ w1.cell? ⟨w.heap.size, 1, none⟩ = some (.slice ao la ca) ∧ w1.cell? ⟨w.heap.size + 1, 0, none⟩ = some (.bool false) ∧ w1.cell? ⟨w.heap.size + 1, 1, none⟩ = some (.slice bo lb cb) ∧ w1.cell? ⟨g, 0, none⟩ = some (.bool nq) ∧ w1.cell? ⟨g, 1, none⟩ = some (.slice mo lm cm)) → Below w1.heap.size w1 w2 → (Below (w.heap.size + 2) Z w2 ∧ w2.cell? ⟨w.heap.size, 0, none⟩ = some (.bool false) ∧ w2.cell? ⟨w.heap.size, 1, none⟩ = some (.slice ao la ca) ∧ w2.cell? ⟨w.heap.size + 1, 0, none⟩ = some (.bool false) ∧ w2.cell? ⟨w.heap.size + 1, 1, none⟩ = some (.slice bo lb cb) ∧ w2.cell? ⟨g, 0, none⟩ = some (.bool nq) ∧ w2.cell? ⟨g, 1, none⟩ = some (.slice mo lm cm))) := fun w1 w2 h hb => by
  have hz := h.1.size
  exact ⟨h.1.trans (hb.mono (by omega)), (hb.cell (p := ⟨w.heap.size, 0, none⟩) (by show w.heap.size < _; omega)).trans h.2.1, (hb.cell (p := ⟨w.heap.size, 1, none⟩) (by show w.heap.size < _; omega)).trans h.2.2.1, (hb.cell (p := ⟨w.heap.size + 1, 0, none⟩) (by show w.heap.size + 1 < _; omega)).trans h.2.2.2.1, (hb.cell (p := ⟨w.heap.size + 1, 1, none⟩) (by show w.heap.size + 1 < _; omega)).trans h.2.2.2.2.1, (hb.cell (p := ⟨g, 0, none⟩) (by show g < _; omega)).trans h.2.2.2.2.2.1, (hb.cell (p := ⟨g, 1, none⟩) (by show g < _; omega)).trans h.2.2.2.2.2.2⟩
 have K2 : Hid (∀ (w1 : World) (r : Nat) (x y : Value), (Below (w.heap.size + 2) Z w1 ∧ w1.cell? ⟨w.heap.size, 0, none⟩ = some (.bool false) ∧ w1.cell? ⟨w.heap.size, 1, none⟩ = some (.slice ao la ca) ∧ w1.cell? ⟨w.heap.size + 1, 0, none⟩ = some (.bool false) ∧ w1.cell? ⟨w.heap.size + 1, 1, none⟩ = some (.slice bo lb cb) ∧ w1.cell? ⟨g, 0, none⟩ = some (.bool nq) ∧ w1.cell? ⟨g, 1, none⟩ = some (.slice mo lm cm)) → (r = w.heap.size + 1 + 1 ∨ r = w.heap.size + 1 + 1 + 1) → (Below (w.heap.size + 2) Z ((w1.setCell ⟨r, 0, none⟩ x).setCell ⟨r, 1, none⟩ y) ∧ ((w1.setCell ⟨r, 0, none⟩ x).setCell ⟨r, 1, none⟩ y).cell? ⟨w.heap.size, 0, none⟩ = some (.bool false) ∧ ((w1.setCell ⟨r, 0, none⟩ x).setCell ⟨r, 1, none⟩ y).cell? ⟨w.heap.size, 1, none⟩ = some (.slice ao la ca) ∧ ((w1.setCell ⟨r, 0, none⟩ x).setCell ⟨r, 1, none⟩ y).cell? ⟨w.heap.size + 1, 0, none⟩ = some (.bool false) ∧ ((w1.setCell ⟨r, 0, none⟩ x).setCell ⟨r, 1, none⟩ y).cell? ⟨w.heap.size + 1, 1, none⟩ = some (.slice bo lb cb) ∧ ((w1.setCell ⟨r, 0, none⟩ x).setCell ⟨r, 1, none⟩ y).cell? ⟨g, 0, none⟩ = some (.bool nq) ∧ ((w1.setCell ⟨r, 0, none⟩ x).setCell ⟨r, 1, none⟩ y).cell? ⟨g, 1, none⟩ = some (.slice mo lm cm))) := fun w1 r x y h hr => by
  have e1 : w.heap.size ≠ r := by omega
  have e2 : w.heap.size + 1 ≠ r := by omega
  have e3 : g ≠ r := by omega
  refine ⟨below_store h.1 (by omega) _ _, ?_, ?_, ?_, ?_, ?_, ?_⟩
  ·
   rw [cell_far e1, cell_far e1]; exact h.2.1
  ·
   rw [cell_far e1, cell_far e1]; exact h.2.2.1
  ·
   rw [cell_far e2, cell_far e2]; exact h.2.2.2.1
  ·
   rw [cell_far e2, cell_far e2]; exact h.2.2.2.2.1
  ·
   rw [cell_far e3, cell_far e3]; exact h.2.2.2.2.2.1
  ·
   rw [cell_far e3, cell_far e3]; exact h.2.2.2.2.2.2
 go_region_held3 (fun w' => (Below (w.heap.size + 2) Z w' ∧ w'.cell? ⟨w.heap.size, 0, none⟩ = some (.bool false) ∧ w'.cell? ⟨w.heap.size, 1, none⟩ = some (.slice ao la ca) ∧ w'.cell? ⟨w.heap.size + 1, 0, none⟩ = some (.bool false) ∧ w'.cell? ⟨w.heap.size + 1, 1, none⟩ = some (.slice bo lb cb) ∧ w'.cell? ⟨g, 0, none⟩ = some (.bool nq) ∧ w'.cell? ⟨g, 1, none⟩ = some (.slice mo lm cm)))
  (first
   | exact KS.out _ (Below.refl _ _).drew
   | exact K1.out _ _ (by assumption) (by assumption)
   | exact K2.out _ _ _ _ (by assumption) (Or.inl rfl)
   | exact K2.out _ _ _ _ (by assumption) (Or.inr rfl))
  (first
   | (go_at_call 71; refine (rtimes_any nq false mo bo lm cm lb cb (sgn false (a.natAbs / b.natAbs)) b _ (HZ1.out.iq.later (Below.refl _ _).drew) (HZ1.out.ib.later (Below.refl _ _).drew) (by omega) (by omega)).mono ?_; rintro e w5 ⟨n5, ao5, l5, c5, rfl, hs5, ho5, hb5⟩; have HI5 : Hid (IntAt w5 n5 ao5 l5 c5 ((sgn false (a.natAbs / b.natAbs)) * b)) := ⟨hs5, ho5.row⟩; have hl5 : l5 ≤ 4194304 := (by rw [ho5.row.hlen, Int.natAbs_mul]; have q1 := mag_len_mul ((sgn false (a.natAbs / b.natAbs))).natAbs b.natAbs; rw [← HZ1.out.iq.row.hlen, ← HZ1.out.ib.row.hlen] at q1; omega); clear hs5 ho5)
   | (go_at_call 105; refine (rless_any false n5 ao ao5 la ca l5 c5 a ((sgn false (a.natAbs / b.natAbs)) * b) _ (HZ1.out.ia.later ((Below.refl _ _).drew.trans hb5)) HI5.out (by omega) (by omega)).mono ?_; rintro e w6 ⟨n6, ao6, l6, c6, rfl, hi6, hb6⟩; have HI6 : Hid (IntAt w6 n6 ao6 l6 c6 (a - (sgn false (a.natAbs / b.natAbs)) * b)) := hi6; clear hi6; have hbF : Below Z.heap.size Z w6 := bnext ((Below.refl _ _).drew.trans hb5) hb6; obtain ⟨g5, g3, g4⟩ := HZ1.out.f1.later hbF (by omega); obtain ⟨g8, g6, g7⟩ := HZ1.out.f2.later hbF (by omega)))
 go_wp2
 exact bodyPost_ret (v := .tuple #[.agg #[.bool nq, .slice mo lm cm], .agg #[.bool n6, .slice ao6 l6 c6]]) (by simp [results, Tryz.results68, go_sem, g3, g4, g6, g7]) rfl
  ⟨_, _, floor_rest HF.out, RDiv.last HZ1.out hbF HI6.out _ _ _ _⟩
end Go.Proofs.YtiiefpnkpfliiaaGreatDoor
namespace Go.Proofs.YtiiefpnkpfliiaaGreatDoor
open Go.RowKit
theorem qsign_any (na : Bool) (ao po : Option Addr) (la ca lp cp : Nat) (a : Rat) (w : World) (hx : RatAt w na ao la ca po lp cp a) (hl : la ≤ 1073741824) (c : Int) (hc : cmpI a.num 0 = c) :
  Calls Tryz.prog 21 #[.agg #[.bool na, .slice ao la ca, .slice po lp cp]] w fun e w' => e = .returned (.int .i64 c) ∧ Below w.heap.size w w' := by
 obtain ⟨W, hT⟩ := ROne1.mk' w na ao po la ca lp cp
 have hsz := hT.size
 have HX : Hid (RatAt W na ao la ca po lp cp a ∧ cmpI a.num 0 = c) := ⟨hx.later hT.below, hc⟩
 obtain ⟨p0, p1, p2⟩ := hT.a
 clear hx hc
 go_enter Tryz.func21, Tryz.ntmps21
 go_wp2_with (go_at_call 65; rw [← hT.eq]; refine (rsign_any na ao la ca a.num _ HX.out.1.num (by omega) c HX.out.2).mono ?_; rintro e w1 ⟨rfl, hb1⟩)
 go_ret
 exact ⟨rfl, bnext hT.below hb1⟩
theorem qcmp_any (na nb : Bool) (ao po bo qo : Option Addr) (la ca lp cp lb cb lq cq : Nat) (a b : Rat) (w : World) (hx : RatAt w na ao la ca po lp cp a) (hy : RatAt w nb bo lb cb qo lq cq b) (ha : Sz a 1000) (hb : Sz b 1000) (c : Int) (hc : cmpQ a b = c) :
  Calls Tryz.prog 28 #[.agg #[.bool na, .slice ao la ca, .slice po lp cp], .agg #[.bool nb, .slice bo lb cb, .slice qo lq cq]] w fun e w' => e = .returned (.int .i64 c) ∧ Below w.heap.size w w' := by
 obtain ⟨W, hT⟩ := RTwo2.mk' w na nb ao po bo qo la ca lp cp lb cb lq cq
 have hsz := hT.size
 have HX : Hid (RatAt W na ao la ca po lp cp a ∧ RatAt W nb bo lb cb qo lq cq b ∧ Below w.heap.size w W) := ⟨hx.later hT.below, hy.later hT.below, hT.below⟩
 have hla : la ≤ 1000 := (hx.len ha).1
 have hlp : lp ≤ 1000 := (hx.len ha).2
 have hlb : lb ≤ 1000 := (hy.len hb).1
 have hlq : lq ≤ 1000 := (hy.len hb).2
 have KW : Hid (∀ w' : World, Below W.heap.size W w' → w'.cell? ⟨w.heap.size, 0, none⟩ = some (.bool na) ∧ w'.cell? ⟨w.heap.size, 1, none⟩ = some (.slice ao la ca) ∧ w'.cell? ⟨w.heap.size, 2, none⟩ = some (.slice po lp cp) ∧ w'.cell? ⟨w.heap.size + 1, 0, none⟩ = some (.bool nb) ∧ w'.cell? ⟨w.heap.size + 1, 1, none⟩ = some (.slice bo lb cb) ∧ w'.cell? ⟨w.heap.size + 1, 2, none⟩ = some (.slice qo lq cq)) := fun w' h => ⟨(h.cell (p := ⟨w.heap.size, 0, none⟩) (by show w.heap.size < _; omega)).trans hT.a.1, (h.cell (p := ⟨w.heap.size, 1, none⟩) (by show w.heap.size < _; omega)).trans hT.a.2.1, (h.cell (p := ⟨w.heap.size, 2, none⟩) (by show w.heap.size < _; omega)).trans hT.a.2.2, (h.cell (p := ⟨w.heap.size + 1, 0, none⟩) (by show w.heap.size + 1 < _; omega)).trans hT.b.1, (h.cell (p := ⟨w.heap.size + 1, 1, none⟩) (by show w.heap.size + 1 < _; omega)).trans hT.b.2.1, (h.cell (p := ⟨w.heap.size + 1, 2, none⟩) (by show w.heap.size + 1 < _; omega)).trans hT.b.2.2⟩
 have HC : Hid (cmpI (a.num * (b.den : Int)) (b.num * (a.den : Int)) = c) := hc
 have HL : Hid ((mag (a.num * (b.den : Int)).natAbs).length ≤ 3000 ∧ (mag (b.num * (a.den : Int)).natAbs).length ≤ 3000) := by
  have h2 := mul_len a.num (b.den : Int)
  have h3 := mul_len b.num (a.den : Int)
  rw [Int.natAbs_natCast] at h2 h3
  have := ha.1; have := ha.2; have := hb.1; have := hb.2
  refine ⟨?_, ?_⟩ <;> omega
 clear hx hy ha hb hc
 go_enter Tryz.func28, Tryz.ntmps28
 go_upto_region 1 with fail
 rw [← hT.eq]
 clear hT
 have hzU : W.heap.size ≤ W.drew.heap.size := Nat.le_refl _
 have S0 : Step8 0 := ⟨trivial⟩
 go_region_held3 (fun w' => (w'.cell? ⟨w.heap.size, 0, none⟩ = some (.bool na) ∧ w'.cell? ⟨w.heap.size, 1, none⟩ = some (.slice ao la ca) ∧ w'.cell? ⟨w.heap.size, 2, none⟩ = some (.slice po lp cp) ∧ w'.cell? ⟨w.heap.size + 1, 0, none⟩ = some (.bool nb) ∧ w'.cell? ⟨w.heap.size + 1, 1, none⟩ = some (.slice bo lb cb) ∧ w'.cell? ⟨w.heap.size + 1, 2, none⟩ = some (.slice qo lq cq)))
  (with_reducible (first | exact KW.out _ (Below.refl _ _).drew | exact KW.out _ (by assumption) | (refine KW.out _ ?_; (repeat (first | refine below_alloc ?_ (Nat.le_refl _) | refine Below.drew ?_ | refine below_set ?_ (by omega))); (first | exact hbF5 | exact hbF4 | exact hbF3 | exact hbF2 | exact hbF1 | exact Below.refl _ _))))
  (first
   | (have _t := S0; go_at_call 69; refine with_held (S := fun w9 => Below W.heap.size W w9) (by show Below _ _ _; with_reducible ((repeat (first | refine below_alloc ?_ (Nat.le_refl _) | refine Below.drew ?_ | refine below_set ?_ (by omega))); (first | exact hbF5 | exact hbF4 | exact hbF3 | exact hbF2 | exact hbF1 | exact Below.refl _ _))) (fun hS => ?_); refine (qden_any nb bo qo lb cb lq cq _ (by omega)).mono ?_; rintro e f1 ⟨rfl, hb⟩; skip; have hbF1 : Below W.heap.size W f1 := bnext hS hb; have hzF1 := hbF1.size; clear hS hb S0; have S1 : Step8 1 := ⟨trivial⟩)
   | (have _t := S1; go_at_call 71; refine with_held (S := fun w9 => Below W.heap.size W w9) (by show Below _ _ _; with_reducible ((repeat (first | refine below_alloc ?_ (Nat.le_refl _) | refine Below.drew ?_ | refine below_set ?_ (by omega))); (first | exact hbF5 | exact hbF4 | exact hbF3 | exact hbF2 | exact hbF1 | exact Below.refl _ _))) (fun hS => ?_); refine with_held (S := fun w9 => Below f1.heap.size f1 w9) (by show Below _ _ _; with_reducible ((repeat (refine below_alloc ?_ (Nat.le_refl _))); exact Below.refl _ _)) (fun hS2 => ?_); refine (rtimes_any na false ao qo la ca lq cq a.num (b.den : Int) _ (HX.out.1.num.later hS) (row_int (HX.out.2.1.den.later hS)) (by omega) (by omega)).mono ?_; rintro e f2 ⟨n1, o1, l1, c1, rfl, hs, ho, hb⟩; have H2 : Hid (IntAt f2 n1 o1 l1 c1 (a.num * (b.den : Int))) := ho.int hs; have hl1 : l1 ≤ 3000 := (by rw [ho.row.hlen]; exact HL.out.1); clear hs ho; have hbF2 : Below W.heap.size W f2 := bnext hS hb; have hzF2 := hbF2.size; clear hS hb S1; clear hS2; have S2 : Step8 2 := ⟨trivial⟩)
   | (have _t := S2; go_at_call 69; refine with_held (S := fun w9 => Below W.heap.size W w9) (by show Below _ _ _; with_reducible ((repeat (first | refine below_alloc ?_ (Nat.le_refl _) | refine Below.drew ?_ | refine below_set ?_ (by omega))); (first | exact hbF5 | exact hbF4 | exact hbF3 | exact hbF2 | exact hbF1 | exact Below.refl _ _))) (fun hS => ?_); refine with_held (S := fun w9 => Below f2.heap.size f2 w9) (by show Below _ _ _; with_reducible ((repeat (refine below_alloc ?_ (Nat.le_refl _))); exact Below.refl _ _)) (fun hS2 => ?_); refine (qden_any na ao po la ca lp cp _ (by omega)).mono ?_; rintro e f3 ⟨rfl, hb⟩; have H3 : Hid (IntAt f3 n1 o1 l1 c1 (a.num * (b.den : Int))) := H2.out.later (bnext hS2 hb); have hbF3 : Below W.heap.size W f3 := bnext hS hb; have hzF3 := hbF3.size; clear hS hb S2; clear hS2; have S3 : Step8 3 := ⟨trivial⟩)
   | (have _t := S3; go_at_call 71; refine with_held (S := fun w9 => Below W.heap.size W w9) (by show Below _ _ _; with_reducible ((repeat (first | refine below_alloc ?_ (Nat.le_refl _) | refine Below.drew ?_ | refine below_set ?_ (by omega))); (first | exact hbF5 | exact hbF4 | exact hbF3 | exact hbF2 | exact hbF1 | exact Below.refl _ _))) (fun hS => ?_); refine with_held (S := fun w9 => Below f3.heap.size f3 w9) (by show Below _ _ _; with_reducible ((repeat (refine below_alloc ?_ (Nat.le_refl _))); exact Below.refl _ _)) (fun hS2 => ?_); refine (rtimes_any nb false bo po lb cb lp cp b.num (a.den : Int) _ (HX.out.2.1.num.later hS) (row_int (HX.out.1.den.later hS)) (by omega) (by omega)).mono ?_; rintro e f4 ⟨n2, o2, l2, c2, rfl, hs, ho, hb⟩; have H4 : Hid (IntAt f4 n1 o1 l1 c1 (a.num * (b.den : Int)) ∧ IntAt f4 n2 o2 l2 c2 (b.num * (a.den : Int))) := ⟨H3.out.later (bnext hS2 hb), ho.int hs⟩; have hl2 : l2 ≤ 3000 := (by rw [ho.row.hlen]; exact HL.out.2); clear hs ho; have hbF4 : Below W.heap.size W f4 := bnext hS hb; have hzF4 := hbF4.size; clear hS hb S3; clear hS2; have S4 : Step8 4 := ⟨trivial⟩)
   | (have _t := S4; go_at_call 70; refine with_held (S := fun w9 => Below W.heap.size W w9) (by show Below _ _ _; with_reducible ((repeat (first | refine below_alloc ?_ (Nat.le_refl _) | refine Below.drew ?_ | refine below_set ?_ (by omega))); (first | exact hbF5 | exact hbF4 | exact hbF3 | exact hbF2 | exact hbF1 | exact Below.refl _ _))) (fun hS => ?_); refine with_held (S := fun w9 => Below f4.heap.size f4 w9) (by show Below _ _ _; with_reducible ((repeat (refine below_alloc ?_ (Nat.le_refl _))); exact Below.refl _ _)) (fun hS2 => ?_); refine (rcmp_any n1 n2 o1 o2 l1 c1 l2 c2 _ _ _ (H4.out.1.later hS2) (H4.out.2.later hS2) (by omega) (by omega) c HC.out).mono ?_; rintro e f5 ⟨rfl, hb⟩; skip; have hbF5 : Below W.heap.size W f5 := bnext hS hb; have hzF5 := hbF5.size; clear hS hb S4; clear hS2; skip))
 all_goals go_wp2
 go_ret
 exact ⟨rfl, bnext HX.out.2.2 hbF5⟩
end Go.Proofs.YtiiefpnkpfliiaaGreatDoor
namespace Go.Proofs.YtiiefpnkpfliiaaGreatDoor
open Go.RowKit
theorem qfloor_of (na : Bool) (ao po : Option Addr) (la ca lp cp : Nat) (a : Rat) (w : World) (hx : RatAt w na ao la ca po lp cp a) (hl : la ≤ 1000) (hl' : lp ≤ 1000) (hdv : ∀ X, IntAt X na ao la ca a.num → IntAt X false po lp cp (a.den : Int) → Calls Tryz.prog 68 #[.agg #[.bool na, .slice ao la ca], .agg #[.bool false, .slice po lp cp]] X fun e w' => ∃ q r, FloorOf a.num (a.den : Int) q r ∧ TwoRef X w' e q r) :
  Calls Tryz.prog 24 #[.agg #[.bool na, .slice ao la ca, .slice po lp cp]] w fun e w' => RefInt w w' e (a.num / (a.den : Int)) := by
 obtain ⟨W, hT⟩ := RI2.mk' w na ao po la ca lp cp
 have hsz : w.heap.size + 2 ≤ W.heap.size := by rw [hT.size]; exact Nat.le_refl _
 have HX : Hid (RatAt W na ao la ca po lp cp a) := hx.later hT.below
 have hd : (a.den : Int) ≠ 0 := by have := a.den_pos; omega
 have KW : Hid (∀ w' : World, Below W.heap.size W w' → (Below W.heap.size W w' ∧ w'.cell? ⟨w.heap.size, 0, none⟩ = some (.bool na) ∧ w'.cell? ⟨w.heap.size, 1, none⟩ = some (.slice ao la ca) ∧ w'.cell? ⟨w.heap.size, 2, none⟩ = some (.slice po lp cp))) := fun w' h => ⟨h, (h.cell (p := ⟨w.heap.size, 0, none⟩) (by show w.heap.size < _; omega)).trans hT.a.1, (h.cell (p := ⟨w.heap.size, 1, none⟩) (by show w.heap.size < _; omega)).trans hT.a.2.1, (h.cell (p := ⟨w.heap.size, 2, none⟩) (by show w.heap.size < _; omega)).trans hT.a.2.2⟩
 have HF : Hid (Fresh W (w.heap.size + 1) ∧ Below w.heap.size w W) := ⟨hT.r, hT.below⟩
 obtain ⟨vq, hvq⟩ : ∃ q : Int, a.num / (a.den : Int) = q := ⟨_, rfl⟩
 rw [hvq]
 have HQ : Hid (a.num / (a.den : Int) = vq) := hvq
 clear hx hvq
 go_enter Tryz.func24, Tryz.ntmps24
 go_upto_region 1 with fail
 rw [← hT.eq]
 clear hT
 go_cut [3, 4] (fun s3 s4 wx => ∃ r3 r4, s3 = .pointer (some ⟨r3, 0, none⟩) ∧ s4 = .pointer (some ⟨r4, 0, none⟩) ∧ ∃ vr, TwoV W wx r3 r4 vq vr)
 case first => as_aux_lemma =>
  have hzU : W.heap.size ≤ W.drew.heap.size := Nat.le_refl _
  have S0 : Step8 0 := ⟨trivial⟩
  go_region_held3 (fun w' => (Below W.heap.size W w' ∧ w'.cell? ⟨w.heap.size, 0, none⟩ = some (.bool na) ∧ w'.cell? ⟨w.heap.size, 1, none⟩ = some (.slice ao la ca) ∧ w'.cell? ⟨w.heap.size, 2, none⟩ = some (.slice po lp cp)))
   (with_reducible (first | exact KW.out _ (Below.refl _ _).drew | exact KW.out _ (by assumption) | (refine KW.out _ ?_; (repeat (first | refine below_alloc ?_ (Nat.le_refl _) | refine Below.drew ?_ | refine below_set ?_ (by omega))); (first | exact hbF2 | exact hbF1 | exact Below.refl _ _))))
   (first
    | (have _t := S0; go_at_call 69; refine with_held (S := fun w9 => Below W.heap.size W w9) (by show Below _ _ _; with_reducible ((repeat (first | refine below_alloc ?_ (Nat.le_refl _) | refine Below.drew ?_ | refine below_set ?_ (by omega))); (first | exact hbF2 | exact hbF1 | exact Below.refl _ _))) (fun hS => ?_); (first | (with_reducible refine with_held (S := fun w9 => Fresh w9 W.heap.size ∧ Fresh w9 (W.heap.size + 1)) ⟨(Fresh.drew' (Fresh.alloc' (Fresh.new W))), (Fresh.drew' (Fresh.new1 W))⟩ (fun FAB => ?_); have FA := FAB.1; have FB := FAB.2; clear FAB; have hAB : W.heap.size ≠ W.heap.size + 1 := (by omega); have hBA := Ne.symm hAB) | (with_reducible refine with_held (S := fun w9 => Fresh w9 W.heap.size) (Fresh.drew' (Fresh.new W)) (fun FA => ?_)) | skip); refine (qden_any na ao po la ca lp cp _ (by omega)).mono ?_; rintro e f1 ⟨rfl, hb⟩; skip; have hbF1 : Below W.heap.size W f1 := bnext hS hb; have hzF1 := hbF1.size; (try replace FA := Fresh.next FA hb); (try replace FB := Fresh.next FB hb); clear hS hb S0; have S1 : Step8 1 := ⟨trivial⟩)
    | (have _t := S1; go_at_call 68; refine with_held (S := fun w9 => Below W.heap.size W w9) (by show Below _ _ _; with_reducible ((repeat (first | refine below_alloc ?_ (Nat.le_refl _) | refine Below.drew ?_ | refine below_set ?_ (by omega))); (first | exact hbF2 | exact hbF1 | exact Below.refl _ _))) (fun hS => ?_); refine with_held (S := fun w9 => Below f1.heap.size f1 w9) (by show Below _ _ _; with_reducible ((repeat (refine below_alloc ?_ (Nat.le_refl _))); exact Below.refl _ _)) (fun hS2 => ?_); (first | (with_reducible refine with_held (S := fun w9 => Fresh w9 f1.heap.size ∧ Fresh w9 (f1.heap.size + 1)) ⟨(Fresh.alloc' (Fresh.new f1)), (Fresh.new1 f1)⟩ (fun FAB => ?_); have FA := FAB.1; have FB := FAB.2; clear FAB; have hAB : f1.heap.size ≠ f1.heap.size + 1 := (by omega); have hBA := Ne.symm hAB) | (have hAB := Nat.ne_of_lt (cell_lt FA.2.1); dsimp only at hAB; have hBA := Ne.symm hAB; with_reducible refine with_held (S := fun w9 => Fresh w9 f1.heap.size ∧ Fresh w9 _) ⟨Fresh.new f1, Fresh.alloc' FA⟩ (fun FAB => ?_); have FB := FAB.1; replace FA := FAB.2; clear FAB) | (with_reducible refine with_held (S := fun w9 => Fresh w9 f1.heap.size) (Fresh.new f1) (fun FA => ?_)) | skip); refine (hdv _ (HX.out.num.later hS) (row_int (HX.out.den.later hS))).mono ?_; rintro e f2 ⟨q5, vr, hfl, n1, o1, l1, c1, n2, o2, l2, c2, rfl, hi1, hi2, hb⟩; have hq5 : q5 = vq := (hfl.pos (by have := a.den_pos; omega)).1.trans HQ.out; subst hq5; have H2 : Hid (IntAt f2 n1 o1 l1 c1 q5 ∧ IntAt f2 n2 o2 l2 c2 vr) := ⟨hi1, hi2⟩; clear hi1 hi2 hfl; have hbF2 : Below W.heap.size W f2 := bnext hS hb; have hzF2 := hbF2.size; (try replace FA := Fresh.next FA hb); (try replace FB := Fresh.next FB hb); (try (have hltA := cell_lt FA.2.1; dsimp only at hltA; have hneA := Nat.ne_of_lt hltA; have hneA2 := Ne.symm hneA; obtain ⟨a5, a3, a4⟩ := FA)); (try (have hltB := cell_lt FB.2.1; dsimp only at hltB; have hneB := Nat.ne_of_lt hltB; have hneB2 := Ne.symm hneB; obtain ⟨b5, b3, b4⟩ := FB)); clear hS hb S1; clear hS2; skip))
  all_goals go_wp2
  all_goals go_meet
  all_goals refine ⟨_, _, rfl, rfl, vr, ?_⟩
  all_goals (first
   | (with_reducible exact tv_a H2 hbF2)
   | (with_reducible exact tv_b H2 hbF2)
   | ((with_reducible refine tv_c H2 hbF2 ?_ ?_) <;> (first | (with_reducible exact fresh_mk a5 a3 a4) | (with_reducible exact fresh_mk b5 b3 b4) | omega))
   | ((with_reducible refine tv_d H2 hbF2 ?_ ?_) <;> (first | (with_reducible exact fresh_mk a5 a3 a4) | (with_reducible exact fresh_mk b5 b3 b4) | omega))
   | ((with_reducible refine tv_e H2 hbF2 ?_ ?_ ?_ ?_ ?_) <;> (first | (with_reducible exact fresh_mk a5 a3 a4) | (with_reducible exact fresh_mk b5 b3 b4) | omega)))
 case rest => as_aux_lemma =>
  obtain ⟨r3, r4, rfl, rfl, vr, n1, o1, l1, c1, n2, o2, l2, c2, x1, x2, ⟨⟨hr3, hr4⟩, hU3, hU4⟩, hi1, hi2, hbV⟩ := hcut
  obtain ⟨Y, hY⟩ : ∃ Z0, Z0 = wc := ⟨_, rfl⟩
  subst hY
  obtain ⟨y0, y1⟩ := x1
  obtain ⟨g5, g3, g4⟩ := HF.out.1.later hbV (by omega)
  have HY : Hid (IntAt Y n1 o1 l1 c1 vq ∧ Below w.heap.size w Y) := ⟨hi1, bnext HF.out.2 hbV⟩
  clear hi1 hi2 hbV x2
  go_wp2
  exact bodyPost_ret (v := .agg #[.bool n1, .slice o1 l1 c1]) (by simp [results, Tryz.results24, go_sem, g3, g4]) rfl
   ⟨_, _, _, _, rfl, int_kept HY.out.1 ⟨g5, g3, g4⟩, below_store HY.out.2 (by omega) _ _⟩
theorem qfloor_nn (na : Bool) (ao po : Option Addr) (la ca lp cp : Nat) (a : Rat) (w : World) (hx : RatAt w na ao la ca po lp cp a) (hl : la ≤ 1000) (hl' : lp ≤ 1000) (h0 : 0 ≤ a.num) :
  Calls Tryz.prog 24 #[.agg #[.bool na, .slice ao la ca, .slice po lp cp]] w fun e w' => RefInt w w' e (a.num / (a.den : Int)) := by
 obtain rfl : na = false := by rw [hx.num.sg]; unfold sgB; exact decide_eq_false (by omega)
 exact qfloor_of false ao po la ca lp cp a w hx hl hl' fun X h1 h2 => rdivide_ff ao po la ca lp cp a.num (a.den : Int) X h1 h2 (by omega) (by omega) (by have := a.den_pos; omega)
end Go.Proofs.YtiiefpnkpfliiaaGreatDoor
