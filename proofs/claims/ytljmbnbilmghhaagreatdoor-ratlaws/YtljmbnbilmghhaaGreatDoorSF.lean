/-
  RatLaws: the walk. (gen/rlaws.py)
-/
import Derived.Test.YtljmbnbilmghhaaGreatDoorSA
import Derived.Test.YtljmbnbilmghhaaGreatDoorSB
import Derived.Test.YtljmbnbilmghhaaGreatDoorRVb
import Derived.Deep.DeepCutAuto
namespace Go.Proofs.YtljmbnbilmghhaaGreatDoor
open Go.RowKit
set_option linter.unusedVariables false
set_option linter.unusedSimpArgs false

theorem Boxed3.lt {Z : World} {r : Nat} {n : Bool} {o p : Option Addr} {l c m k : Nat} (h : Boxed3 Z r n o l c p m k) : r < Z.heap.size := cell_lt h.1
theorem put3_size {y : World} {r : Nat} {a b c : Value} : (((y.setCell ⟨r, 0, none⟩ a).setCell ⟨r, 1, none⟩ b).setCell ⟨r, 2, none⟩ c).heap.size = y.heap.size := by simp [World.setCell]
theorem Sz.div {a b : Rat} {i j : Nat} (ha : Sz a i) (hb : Sz b j) (h0 : b ≠ 0) : Sz (a / b) (i + j) := by rw [Rat.div_def]; exact ha.mul (hb.inv h0)
/-- three rationals in variables -/
structure InR3 (w W : World) (na nb nc : Bool) (ao po bo qo co so : Option Addr) (la ca lp cp lb cb lq cq lc cc lr cr : Nat) : Prop where
  eq : W = (((w.alloc (.cells #[.bool na, .slice ao la ca, .slice po lp cp] 28)).alloc (.cells #[.bool nb, .slice bo lb cb, .slice qo lq cq] 28)).alloc (.cells #[.bool nc, .slice co lc cc, .slice so lr cr] 28))
  below : Below w.heap.size w W
  size : W.heap.size = w.heap.size + 3
  a : Boxed3 W w.heap.size na ao la ca po lp cp
  b : Boxed3 W (w.heap.size + 1) nb bo lb cb qo lq cq
  c : Boxed3 W (w.heap.size + 1 + 1) nc co lc cc so lr cr
theorem InR3.mk' (w : World) (na nb nc : Bool) (ao po bo qo co so : Option Addr) (la ca lp cp lb cb lq cq lc cc lr cr : Nat) : ∃ W, InR3 w W na nb nc ao po bo qo co so la ca lp cp lb cb lq cq lc cc lr cr :=
  ⟨_, rfl, (((Below.refl _ _).alloc (Nat.le_refl _) _).alloc (by simp) _).alloc (by simp; omega) _, by simp, ⟨by simp [go_sem], by simp [go_sem], by simp [go_sem]⟩, ⟨by simp [go_sem], by simp [go_sem], by simp [go_sem]⟩, ⟨by simp [go_sem], by simp [go_sem], by simp [go_sem]⟩⟩
def Elem7 (W : World) (b o : Nat) (na nb : Bool) (ao po bo qo : Option Addr) (la ca lp cp lb cb lq cq : Nat) (N : Int) : Prop := W.cell? ⟨b, o, none⟩ = some (.bool na) ∧ W.cell? ⟨b, o + 1, none⟩ = some (.slice ao la ca) ∧ W.cell? ⟨b, o + 2, none⟩ = some (.slice po lp cp) ∧ W.cell? ⟨b, o + 3, none⟩ = some (.bool nb) ∧ W.cell? ⟨b, o + 4, none⟩ = some (.slice bo lb cb) ∧ W.cell? ⟨b, o + 5, none⟩ = some (.slice qo lq cq) ∧ W.cell? ⟨b, o + 6, none⟩ = some (.int .i64 N)
theorem Elem7.later {W w2 : World} {B b o : Nat} {na nb : Bool} {ao po bo qo : Option Addr} {la ca lp cp lb cb lq cq : Nat} {N : Int} (k : Elem7 W b o na nb ao po bo qo la ca lp cp lb cb lq cq N) (h : Below B W w2) (hr : b < B) : Elem7 w2 b o na nb ao po bo qo la ca lp cp lb cb lq cq N :=
  ⟨(h.cell (p := ⟨b, o, none⟩) hr).trans k.1, (h.cell (p := ⟨b, o + 1, none⟩) hr).trans k.2.1, (h.cell (p := ⟨b, o + 2, none⟩) hr).trans k.2.2.1, (h.cell (p := ⟨b, o + 3, none⟩) hr).trans k.2.2.2.1, (h.cell (p := ⟨b, o + 4, none⟩) hr).trans k.2.2.2.2.1, (h.cell (p := ⟨b, o + 5, none⟩) hr).trans k.2.2.2.2.2.1, (h.cell (p := ⟨b, o + 6, none⟩) hr).trans k.2.2.2.2.2.2⟩
theorem num2_bel (n : Int) (w : World) : Calls Tryz.prog 26 #[.int .i64 n] w fun e w' => e = .returned (.int .i64 n) ∧ Below w.heap.size w w' :=
  (num2_any n w).mono fun e w' ⟨h1, h2⟩ => ⟨h1, by rw [h2]; exact Below.refl _ _⟩
/-- a rational in a variable that was made behind U, and that may be written -/
def NewVar (U wx : World) (r : Nat) (v : Rat) : Prop := ∃ n o l c p m k, RVar wx r n o l c p m k v ∧ (∀ j, wx.frozen? ⟨r, j, none⟩ = false) ∧ U.heap.size ≤ r ∧ Below U.heap.size U wx
theorem nv_a {U y : World} {n : Bool} {o p : Option Addr} {l c m k : Nat} {v : Rat} (h : RatAt y n o l c p m k v) (hb : Below U.heap.size U y) : NewVar U (y.alloc (.cells #[.bool n, .slice o l c, .slice p m k] 28)) y.heap.size v :=
  ⟨n, o, l, c, p, m, k, (RVar.new hb h).out.1, fun j => by simp [go_sem], hb.size, (RVar.new hb h).out.2.1⟩
theorem nv_b {U y : World} {n n' : Bool} {o p o' p' : Option Addr} {l c m k l' c' m' k' r : Nat} {v : Rat} (h : RatAt y n o l c p m k v) (hb : Below U.heap.size U y) (hB : Boxed3 y r n' o' l' c' p' m' k') (hf : ∀ j, y.frozen? ⟨r, j, none⟩ = false) (hr : U.heap.size ≤ r) : NewVar U (((y.setCell ⟨r, 0, none⟩ (.bool n)).setCell ⟨r, 1, none⟩ (.slice o l c)).setCell ⟨r, 2, none⟩ (.slice p m k)) r v :=
  ⟨n, o, l, c, p, m, k, ⟨boxed_set hB.1 hB.2.1 hB.2.2, rat_kept h hB, by rw [put3_size]; exact hB.lt⟩, fun j => by rw [frozen_off, frozen_off, frozen_off]; exact hf j, hr, below_store3 hb hr _ _ _⟩
theorem Fresh3.new (w : World) : Fresh3 (w.alloc (.cells #[.bool false, .slice none 0 0, .slice none 0 0] 28)) w.heap.size := ⟨fun j => by simp [go_sem], by simp [go_sem], by simp [go_sem], by simp [go_sem]⟩
theorem Fresh3.drew' {X : World} {r : Nat} (h : Fresh3 X r) : Fresh3 X.drew r := ⟨h.1, h.2.1, h.2.2.1, h.2.2.2⟩
theorem Fresh3.next {W w2 : World} {r : Nat} (k : Fresh3 W r) (h : Below W.heap.size W w2) : Fresh3 w2 r := k.later h (cell_lt k.2.1)
theorem nv_c {U y : World} {n : Bool} {o p : Option Addr} {l c m k r : Nat} {v : Rat} (h : Hid (RatAt y n o l c p m k v)) (hb : Below U.heap.size U y) (h1 : ∀ j, y.frozen? ⟨r, j, none⟩ = false) (h2 : y.cell? ⟨r, 0, none⟩ = some (.bool false)) (h3 : y.cell? ⟨r, 1, none⟩ = some (.slice none 0 0)) (h4 : y.cell? ⟨r, 2, none⟩ = some (.slice none 0 0)) (hr : U.heap.size ≤ r) : NewVar U (((y.setCell ⟨r, 0, none⟩ (.bool n)).setCell ⟨r, 1, none⟩ (.slice o l c)).setCell ⟨r, 2, none⟩ (.slice p m k)) r v := nv_b h.out hb ⟨h2, h3, h4⟩ h1 hr
theorem nv_d {U y : World} {n : Bool} {o p : Option Addr} {l c m k : Nat} {v : Rat} (h : Hid (RatAt y n o l c p m k v)) (hb : Below U.heap.size U y) : NewVar U (y.alloc (.cells #[.bool n, .slice o l c, .slice p m k] 28)) y.heap.size v := nv_a h.out hb
theorem powfits_one {v : Int} (hl : (mag v.natAbs).length ≤ 20) : PowFits v 1 := fun neg ao l c X h =>
  bpow_small neg ao l c 1 v X h (by rw [h.row.hlen]; omega) (by decide) (by rw [show v.natAbs ^ (1 / 2) = 1 from rfl]; decide) (by rw [Nat.pow_one]; omega)
theorem pow_m1 (na : Bool) (ao po : Option Addr) (la ca lp cp : Nat) (a : Rat) (w : World) (hx : RatAt w na ao la ca po lp cp a) (h0 : a ≠ 0) (hz : Sz a 8) (hT0 : TabAt 0 Lib.deBruijn64tab w) :
    Calls Tryz.prog 51 #[.agg #[.bool na, .slice ao la ca, .slice po lp cp], .int .i64 (-1)] w fun e w' => NewRatErr w w' e (a ^ (-1 : Int)) := by
  have h1 := hx.len hz
  have h2 := hz.inv h0
  have p : ∀ {v : Int}, (mag v.natAbs).length ≤ 8 → PowFits v (-1 : Int).natAbs := fun h => powfits_one (Nat.le_trans h (by decide))
  exact pow_rat na ao po la ca lp cp (-1) a w hx h0 ⟨by decide, by decide⟩ (by omega) (by omega) hT0 ⟨⟨p hz.1, p (by rw [Int.natAbs_natCast]; exact hz.2)⟩, ⟨p h2.1, p (by rw [Int.natAbs_natCast]; exact h2.2)⟩⟩
theorem zpow_one_inv (a : Rat) : a ^ (-1 : Int) = a⁻¹ := by
  have h := inv_pow a 1
  rw [show a⁻¹ ^ 1 = a⁻¹ by rw [Rat.pow_succ, Rat.pow_zero, Rat.one_mul]] at h
  exact h.symm
theorem int_sz (q : Int) {k : Nat} (h : (mag q.natAbs).length ≤ k) (hk : 1 ≤ k) : Sz (q : Rat) k := ⟨h, Nat.le_trans (show (mag 1).length ≤ 1 by decide) hk⟩

set_option maxRecDepth 100000 in
set_option maxHeartbeats 40000000 in
theorem ratLaws_any (lo : Option Addr) (len cap : Nat) (w : World) (hE : ElemsR w lo len) (hl : len ≤ 9223372036854775807) (hT0 : TabAt 0 Lib.deBruijn64tab w) (hP0 : Pow10 w) :
  Calls Tryz.prog 8 #[.slice lo len cap] w fun e w' => e = .returned (.bool true) ∧ Below w.heap.size w w' := by
 have HT : Hid (TabAt 0 Lib.deBruijn64tab w ∧ Pow10 w) := ⟨hT0, hP0⟩
 clear hT0 hP0
 go_enter Tryz.func8, Tryz.ntmps8
 go_wp2
 go_loopw [3] (fun i wr => ∃ k : Nat, k ≤ len ∧ k ≤ 30 ∧ i = .int .i64 k ∧ Below w.heap.size w wr) (fun i _ => 30 - (intOf i).toNat)
 case atStart => exact ⟨0, Nat.zero_le _, by omega, rfl, Below.refl _ _⟩
 case round =>
  obtain ⟨k, hk, hk30, rfl, hbel⟩ := hrel
  by_cases hlt : k + 1 < len ∧ k < 30
  ·
   obtain ⟨hlt, hlt30⟩ := hlt
   obtain ⟨b, off, rfl, hbw, hel⟩ := hE k (by omega)
   obtain ⟨b', off', heb, hbw', hel2⟩ := hE (k + 1) hlt
   cases heb
   have hbr : b < wr.heap.size := Nat.lt_of_lt_of_le hbw hbel.size
   obtain ⟨na, nb, ao, po, bo, qo, la, ca, lp, cp, lb, cb, lq, cq, N, x, d, y, f, ⟨h0, h1, h2, h3, h4, h5, h6⟩, r1, v1, r2, v2, r3, v3, r4, v4, hn1, hn2⟩ := hel.later hbel hbw
   obtain ⟨nc, nd, co, so, do1, do2, lc, cc, lr, cr, ld, cd, lt, ct, M, z, t, z2, t2, ⟨j0, j1, j2, j3, j4, j5, j6⟩, r5, v5, r6, v6, _, _, _, _, _, _⟩ := hel2.later hbel hbw
   obtain ⟨W, hT⟩ := InR3.mk' wr na nb nc ao po bo qo co so la ca lp cp lb cb lq cq lc cc lr cr
   have hsz := hT.size
   have hbW : Below w.heap.size w W := bnext hbel hT.below
   have HX : Hid ((RowAt W .u64 ao la ca x ∧ RowAt W .u64 po lp cp d) ∧ (RowAt W .u64 bo lb cb y ∧ RowAt W .u64 qo lq cq f) ∧ (RowAt W .u64 co lc cc z ∧ RowAt W .u64 so lr cr t)) := ⟨⟨r1.later hT.below, r2.later hT.below⟩, ⟨r3.later hT.below, r4.later hT.below⟩, ⟨r5.later hT.below, r6.later hT.below⟩⟩
   have HWd : Hid ((Wd 18446744073709551616 x ∧ Wd 18446744073709551616 d) ∧ (Wd 18446744073709551616 y ∧ Wd 18446744073709551616 f) ∧ (Wd 18446744073709551616 z ∧ Wd 18446744073709551616 t)) := ⟨⟨v1, v2⟩, ⟨v3, v4⟩, ⟨v5, v6⟩⟩
   have HJ1 : Hid (Elem7 W b (off + k * 7) na nb ao po bo qo la ca lp cp lb cb lq cq N) := Elem7.later (W := wr) ⟨h0, h1, h2, h3, h4, h5, h6⟩ hT.below hbr
   have HJ : Hid (Elem7 W b (off + (k + 1) * 7) nc nd co so do1 do2 lc cc lr cr ld cd lt ct M) := Elem7.later (W := wr) ⟨j0, j1, j2, j3, j4, j5, j6⟩ hT.below hbr
   clear r1 r2 r3 r4 r5 r6 v1 v2 v3 v4 v5 v6 hel hel2
   go_upto_region 7 with fail
   rw [← hT.eq]
   clear h0 h1 h2 h3 h4 h5 h6 j0 j1 j2 j3 j4 j5 j6
   have hbr2 : b < W.heap.size := by omega
   obtain ⟨h0, h1, h2, h3, h4, h5, h6⟩ := HJ1.out
   cases hhv : ((decide ((8 : Int) < (la : Int)) || decide ((8 : Int) < (lp : Int))) || (decide ((8 : Int) < (lb : Int)) || decide ((8 : Int) < (lq : Int))))
   ·
    have HH : Hid (((decide ((8 : Int) < (la : Int)) || decide ((8 : Int) < (lp : Int))) || (decide ((8 : Int) < (lb : Int)) || decide ((8 : Int) < (lq : Int)))) = false) := hhv
    have hla : la ≤ 8 := by simp at hhv; omega
    have hlp : lp ≤ 8 := by simp at hhv; omega
    have hlb : lb ≤ 8 := by simp at hhv; omega
    have hlq : lq ≤ 8 := by simp at hhv; omega
    clear hhv
    cases hhw : ((decide ((8 : Int) < (lc : Int)) || decide ((8 : Int) < (lr : Int))) || (decide ((8 : Int) < (ld : Int)) || decide ((8 : Int) < (lt : Int))))
    ·
     have HH2 : Hid (((decide ((8 : Int) < (lc : Int)) || decide ((8 : Int) < (lr : Int))) || (decide ((8 : Int) < (ld : Int)) || decide ((8 : Int) < (lt : Int)))) = false) := hhw
     have hlc : lc ≤ 8 := by simp at hhw; omega
     have hlr : lr ≤ 8 := by simp at hhw; omega
     clear hhw
     cases hma : mayR na x d
     ·
      as_aux_lemma =>
      have HMa : Hid (mayR na x d = false) := hma
      clear hma
      go_wp2_with (first
        | (go_at_call 24; have _t := hb2; refine (qmay_any na ao po la ca lp cp x d _ (HX.out.1.1.later hb2) HWd.out.1.1 (HX.out.1.2.later hb2) HWd.out.1.2 (by omega) (by omega) false HMa.out).mono ?_; rintro e w3 ⟨rfl, hb3'⟩; have hb3 := bnext hb2 hb3'; clear hb3'; clear pa0 pa1 pa2 pb0 pb1 pb2 pc0 pc1 pc2; obtain ⟨pa0, pa1, pa2⟩ := hT.a.later hb3 (by omega); obtain ⟨pb0, pb1, pb2⟩ := hT.b.later hb3 (by omega); obtain ⟨pc0, pc1, pc2⟩ := hT.c.later hb3 (by omega))
        | (go_at_call 9; have _t := hb1; refine (heavyR_any nc nd co so do1 do2 lc cc lr cr ld cd lt ct M _ false HH2.out).mono ?_; rintro e w2 ⟨rfl, hb2'⟩; have hb2 := bnext hb1 hb2'; clear hb2'; clear j0 j1 j2 j3 j4 j5 j6; obtain ⟨pa0, pa1, pa2⟩ := hT.a.later hb2 (by omega); obtain ⟨pb0, pb1, pb2⟩ := hT.b.later hb2 (by omega); obtain ⟨pc0, pc1, pc2⟩ := hT.c.later hb2 (by omega))
        | (go_at_call 9; refine (heavyR_any na nb ao po bo qo la ca lp cp lb cb lq cq N _ false HH.out).mono ?_; rintro e w1 ⟨rfl, hb1⟩; clear h0 h1 h2 h3 h4 h5 h6; obtain ⟨j0, j1, j2, j3, j4, j5, j6⟩ := HJ.out.later hb1 hbr2))
      go_roundw
      case rel => exact ⟨k + 1, by omega, by omega, by go_num, bnext hbW hb3⟩
      case measure => simp [intOf]; omega
     ·
      have HMa : Hid (mayR na x d = true) := hma
      clear hma
      cases hmb : mayR nb y f
      ·
       as_aux_lemma =>
       have HMb : Hid (mayR nb y f = false) := hmb
       clear hmb
       go_wp2_with (first
         | (go_at_call 24; have _t := hb3; refine (qmay_any nb bo qo lb cb lq cq y f _ (HX.out.2.1.1.later hb3) HWd.out.2.1.1 (HX.out.2.1.2.later hb3) HWd.out.2.1.2 (by omega) (by omega) false HMb.out).mono ?_; rintro e w4 ⟨rfl, hb4'⟩; have hb4 := bnext hb3 hb4'; clear hb4'; clear pa0 pa1 pa2 pb0 pb1 pb2 pc0 pc1 pc2; obtain ⟨pa0, pa1, pa2⟩ := hT.a.later hb4 (by omega); obtain ⟨pb0, pb1, pb2⟩ := hT.b.later hb4 (by omega); obtain ⟨pc0, pc1, pc2⟩ := hT.c.later hb4 (by omega))
         | (go_at_call 24; have _t := hb2; refine (qmay_any na ao po la ca lp cp x d _ (HX.out.1.1.later hb2) HWd.out.1.1 (HX.out.1.2.later hb2) HWd.out.1.2 (by omega) (by omega) true HMa.out).mono ?_; rintro e w3 ⟨rfl, hb3'⟩; have hb3 := bnext hb2 hb3'; clear hb3'; clear pa0 pa1 pa2 pb0 pb1 pb2 pc0 pc1 pc2; obtain ⟨pa0, pa1, pa2⟩ := hT.a.later hb3 (by omega); obtain ⟨pb0, pb1, pb2⟩ := hT.b.later hb3 (by omega); obtain ⟨pc0, pc1, pc2⟩ := hT.c.later hb3 (by omega))
         | (go_at_call 9; have _t := hb1; refine (heavyR_any nc nd co so do1 do2 lc cc lr cr ld cd lt ct M _ false HH2.out).mono ?_; rintro e w2 ⟨rfl, hb2'⟩; have hb2 := bnext hb1 hb2'; clear hb2'; clear j0 j1 j2 j3 j4 j5 j6; obtain ⟨pa0, pa1, pa2⟩ := hT.a.later hb2 (by omega); obtain ⟨pb0, pb1, pb2⟩ := hT.b.later hb2 (by omega); obtain ⟨pc0, pc1, pc2⟩ := hT.c.later hb2 (by omega))
         | (go_at_call 9; refine (heavyR_any na nb ao po bo qo la ca lp cp lb cb lq cq N _ false HH.out).mono ?_; rintro e w1 ⟨rfl, hb1⟩; clear h0 h1 h2 h3 h4 h5 h6; obtain ⟨j0, j1, j2, j3, j4, j5, j6⟩ := HJ.out.later hb1 hbr2))
       go_roundw
       case rel => exact ⟨k + 1, by omega, by omega, by go_num, bnext hbW hb4⟩
       case measure => simp [intOf]; omega
      ·
       have HMb : Hid (mayR nb y f = true) := hmb
       clear hmb
       cases hmc : mayR nc z t
       ·
        as_aux_lemma =>
        have HMc : Hid (mayR nc z t = false) := hmc
        clear hmc
        go_wp2_with (first
          | (go_at_call 24; have _t := hb4; refine (qmay_any nc co so lc cc lr cr z t _ (HX.out.2.2.1.later hb4) HWd.out.2.2.1 (HX.out.2.2.2.later hb4) HWd.out.2.2.2 (by omega) (by omega) false HMc.out).mono ?_; rintro e w5 ⟨rfl, hb5'⟩; have hb5 := bnext hb4 hb5'; clear hb5'; clear pa0 pa1 pa2 pb0 pb1 pb2 pc0 pc1 pc2; obtain ⟨pa0, pa1, pa2⟩ := hT.a.later hb5 (by omega); obtain ⟨pb0, pb1, pb2⟩ := hT.b.later hb5 (by omega); obtain ⟨pc0, pc1, pc2⟩ := hT.c.later hb5 (by omega))
          | (go_at_call 24; have _t := hb3; refine (qmay_any nb bo qo lb cb lq cq y f _ (HX.out.2.1.1.later hb3) HWd.out.2.1.1 (HX.out.2.1.2.later hb3) HWd.out.2.1.2 (by omega) (by omega) true HMb.out).mono ?_; rintro e w4 ⟨rfl, hb4'⟩; have hb4 := bnext hb3 hb4'; clear hb4'; clear pa0 pa1 pa2 pb0 pb1 pb2 pc0 pc1 pc2; obtain ⟨pa0, pa1, pa2⟩ := hT.a.later hb4 (by omega); obtain ⟨pb0, pb1, pb2⟩ := hT.b.later hb4 (by omega); obtain ⟨pc0, pc1, pc2⟩ := hT.c.later hb4 (by omega))
          | (go_at_call 24; have _t := hb2; refine (qmay_any na ao po la ca lp cp x d _ (HX.out.1.1.later hb2) HWd.out.1.1 (HX.out.1.2.later hb2) HWd.out.1.2 (by omega) (by omega) true HMa.out).mono ?_; rintro e w3 ⟨rfl, hb3'⟩; have hb3 := bnext hb2 hb3'; clear hb3'; clear pa0 pa1 pa2 pb0 pb1 pb2 pc0 pc1 pc2; obtain ⟨pa0, pa1, pa2⟩ := hT.a.later hb3 (by omega); obtain ⟨pb0, pb1, pb2⟩ := hT.b.later hb3 (by omega); obtain ⟨pc0, pc1, pc2⟩ := hT.c.later hb3 (by omega))
          | (go_at_call 9; have _t := hb1; refine (heavyR_any nc nd co so do1 do2 lc cc lr cr ld cd lt ct M _ false HH2.out).mono ?_; rintro e w2 ⟨rfl, hb2'⟩; have hb2 := bnext hb1 hb2'; clear hb2'; clear j0 j1 j2 j3 j4 j5 j6; obtain ⟨pa0, pa1, pa2⟩ := hT.a.later hb2 (by omega); obtain ⟨pb0, pb1, pb2⟩ := hT.b.later hb2 (by omega); obtain ⟨pc0, pc1, pc2⟩ := hT.c.later hb2 (by omega))
          | (go_at_call 9; refine (heavyR_any na nb ao po bo qo la ca lp cp lb cb lq cq N _ false HH.out).mono ?_; rintro e w1 ⟨rfl, hb1⟩; clear h0 h1 h2 h3 h4 h5 h6; obtain ⟨j0, j1, j2, j3, j4, j5, j6⟩ := HJ.out.later hb1 hbr2))
        go_roundw
        case rel => exact ⟨k + 1, by omega, by omega, by go_num, bnext hbW hb5⟩
        case measure => simp [intOf]; omega
       ·
        as_aux_lemma =>
        have HMc : Hid (mayR nc z t = true) := hmc
        clear hmc
        go_upto_region 10 with (first
          | (go_at_call 24; have _t := hb4; refine (qmay_any nc co so lc cc lr cr z t _ (HX.out.2.2.1.later hb4) HWd.out.2.2.1 (HX.out.2.2.2.later hb4) HWd.out.2.2.2 (by omega) (by omega) true HMc.out).mono ?_; rintro e w5 ⟨rfl, hb5'⟩; have hb5 := bnext hb4 hb5'; clear hb5'; clear pa0 pa1 pa2 pb0 pb1 pb2 pc0 pc1 pc2; obtain ⟨pa0, pa1, pa2⟩ := hT.a.later hb5 (by omega); obtain ⟨pb0, pb1, pb2⟩ := hT.b.later hb5 (by omega); obtain ⟨pc0, pc1, pc2⟩ := hT.c.later hb5 (by omega))
          | (go_at_call 24; have _t := hb3; refine (qmay_any nb bo qo lb cb lq cq y f _ (HX.out.2.1.1.later hb3) HWd.out.2.1.1 (HX.out.2.1.2.later hb3) HWd.out.2.1.2 (by omega) (by omega) true HMb.out).mono ?_; rintro e w4 ⟨rfl, hb4'⟩; have hb4 := bnext hb3 hb4'; clear hb4'; clear pa0 pa1 pa2 pb0 pb1 pb2 pc0 pc1 pc2; obtain ⟨pa0, pa1, pa2⟩ := hT.a.later hb4 (by omega); obtain ⟨pb0, pb1, pb2⟩ := hT.b.later hb4 (by omega); obtain ⟨pc0, pc1, pc2⟩ := hT.c.later hb4 (by omega))
          | (go_at_call 24; have _t := hb2; refine (qmay_any na ao po la ca lp cp x d _ (HX.out.1.1.later hb2) HWd.out.1.1 (HX.out.1.2.later hb2) HWd.out.1.2 (by omega) (by omega) true HMa.out).mono ?_; rintro e w3 ⟨rfl, hb3'⟩; have hb3 := bnext hb2 hb3'; clear hb3'; clear pa0 pa1 pa2 pb0 pb1 pb2 pc0 pc1 pc2; obtain ⟨pa0, pa1, pa2⟩ := hT.a.later hb3 (by omega); obtain ⟨pb0, pb1, pb2⟩ := hT.b.later hb3 (by omega); obtain ⟨pc0, pc1, pc2⟩ := hT.c.later hb3 (by omega))
          | (go_at_call 9; have _t := hb1; refine (heavyR_any nc nd co so do1 do2 lc cc lr cr ld cd lt ct M _ false HH2.out).mono ?_; rintro e w2 ⟨rfl, hb2'⟩; have hb2 := bnext hb1 hb2'; clear hb2'; clear j0 j1 j2 j3 j4 j5 j6; obtain ⟨pa0, pa1, pa2⟩ := hT.a.later hb2 (by omega); obtain ⟨pb0, pb1, pb2⟩ := hT.b.later hb2 (by omega); obtain ⟨pc0, pc1, pc2⟩ := hT.c.later hb2 (by omega))
          | (go_at_call 9; refine (heavyR_any na nb ao po bo qo la ca lp cp lb cb lq cq N _ false HH.out).mono ?_; rintro e w1 ⟨rfl, hb1⟩; clear h0 h1 h2 h3 h4 h5 h6; obtain ⟨j0, j1, j2, j3, j4, j5, j6⟩ := HJ.out.later hb1 hbr2))
        obtain ⟨va, hIa, _, _⟩ := rat_of_may (HX.out.1.1.later hb5) HWd.out.1.1 (HX.out.1.2.later hb5) HWd.out.1.2 HMa.out
        obtain ⟨vb, hIb, _, _⟩ := rat_of_may (HX.out.2.1.1.later hb5) HWd.out.2.1.1 (HX.out.2.1.2.later hb5) HWd.out.2.1.2 HMb.out
        obtain ⟨vc, hIc, _, _⟩ := rat_of_may (HX.out.2.2.1.later hb5) HWd.out.2.2.1 (HX.out.2.2.2.later hb5) HWd.out.2.2.2 HMc.out
        have HSz : Hid (Sz va 8 ∧ Sz vb 8 ∧ Sz vc 8) := ⟨⟨by rw [← hIa.num.row.hlen]; exact hla, by rw [← hIa.den.hlen]; exact hlp⟩, ⟨by rw [← hIb.num.row.hlen]; exact hlb, by rw [← hIb.den.hlen]; exact hlq⟩, ⟨by rw [← hIc.num.row.hlen]; exact hlc, by rw [← hIc.den.hlen]; exact hlr⟩⟩
        have hz5 := hb5.size
        have ua : RVar w5 (wr.heap.size) na ao la ca po lp cp (va) := ⟨hT.a.later hb5 (by omega), hIa, by omega⟩
        have ub : RVar w5 (wr.heap.size + 1) nb bo lb cb qo lq cq (vb) := ⟨hT.b.later hb5 (by omega), hIb, by omega⟩
        have uc : RVar w5 (wr.heap.size + 1 + 1) nc co lc cc so lr cr (vc) := ⟨hT.c.later hb5 (by omega), hIc, by omega⟩
        have hbw5 : Below w.heap.size w w5 := bnext hbW hb5
        obtain ⟨rA, hrA⟩ : ∃ r, wr.heap.size = r := ⟨_, rfl⟩
        obtain ⟨rB, hrB⟩ : ∃ r, wr.heap.size + 1 = r := ⟨_, rfl⟩
        obtain ⟨rC, hrC⟩ : ∃ r, wr.heap.size + 1 + 1 = r := ⟨_, rfl⟩
        rw [hrA] at ua
        rw [hrB] at ub
        rw [hrC] at uc
        rw [hrC, hrB, hrA]
        clear hrA hrB hrC pa0 pa1 pa2 pb0 pb1 pb2 pc0 pc1 pc2 hb1 hb2 hb3 hb4 hb5 hz5 hIa hIb hIc HX HWd HJ HJ1 HH HH2 HMa HMb HMc hT hsz hbW hbr hbr2 hbw hbw'
        obtain ⟨Z0, hZ0⟩ : ∃ Z, Z = w5 := ⟨_, rfl⟩
        rw [← hZ0] at ua ub uc hbw5
        rw [← hZ0]
        clear hZ0
        have HU0 : Hid (RVar Z0 (rA) na ao la ca po lp cp (va) ∧ RVar Z0 (rB) nb bo lb cb qo lq cq (vb) ∧ RVar Z0 (rC) nc co lc cc so lr cr (vc)) := ⟨ua, ub, uc⟩
        have HB0 : Hid (Below w.heap.size w Z0) := hbw5
        have KS0 : Hid (∀ w' : World, Below Z0.heap.size Z0 w' → w'.cell? ⟨rA, 0, none⟩ = some (.bool na) ∧ w'.cell? ⟨rA, 1, none⟩ = some (.slice ao la ca) ∧ w'.cell? ⟨rA, 2, none⟩ = some (.slice po lp cp) ∧ w'.cell? ⟨rB, 0, none⟩ = some (.bool nb) ∧ w'.cell? ⟨rB, 1, none⟩ = some (.slice bo lb cb) ∧ w'.cell? ⟨rB, 2, none⟩ = some (.slice qo lq cq) ∧ w'.cell? ⟨rC, 0, none⟩ = some (.bool nc) ∧ w'.cell? ⟨rC, 1, none⟩ = some (.slice co lc cc) ∧ w'.cell? ⟨rC, 2, none⟩ = some (.slice so lr cr)) := fun w' h => ⟨(HU0.out.1.box.later h HU0.out.1.lt).1, (HU0.out.1.box.later h HU0.out.1.lt).2.1, (HU0.out.1.box.later h HU0.out.1.lt).2.2, (HU0.out.2.1.box.later h HU0.out.2.1.lt).1, (HU0.out.2.1.box.later h HU0.out.2.1.lt).2.1, (HU0.out.2.1.box.later h HU0.out.2.1.lt).2.2, (HU0.out.2.2.box.later h HU0.out.2.2.lt).1, (HU0.out.2.2.box.later h HU0.out.2.2.lt).2.1, (HU0.out.2.2.box.later h HU0.out.2.2.lt).2.2⟩
        clear ua ub uc hbw5
        skip
        go_cut [7] (fun s7 wx => ∃ r, s7 = .pointer (some ⟨r, 0, none⟩) ∧ NewVar Z0 wx r (vb + vc))
        case first => as_aux_lemma =>
         obtain ⟨ga0, ga1, ga2⟩ := HU0.out.1.box
         obtain ⟨gb0, gb1, gb2⟩ := HU0.out.2.1.box
         obtain ⟨gc0, gc1, gc2⟩ := HU0.out.2.2.box
         go_wp2_with (go_at_call 17; refine (add_rat nb nc bo qo co so lb cb lq cq lc cc lr cr vb vc _ HU0.out.2.1.rat HU0.out.2.2.rat (HSz.out.2.1.mono (by decide)) (HSz.out.2.2.mono (by decide)) (tab_later HT.out.1 HB0.out)).mono ?_; rintro e y5 ⟨n5, o5, l5, c5, p5, m5, k5, rfl, hs, ho, hp, _, hb5⟩; have HA5 : Hid (RatAt y5 n5 o5 l5 c5 p5 m5 k5 (vb + vc) ∧ Below Z0.heap.size Z0 y5) := ⟨⟨ho.int hs, hp.row⟩, hb5⟩; clear hs ho hp hb5)
         go_meet
         exact ⟨_, rfl, nv_a HA5.out.1 HA5.out.2⟩
        case rest => as_aux_lemma =>
         obtain ⟨r7, rfl, n7, o7, l7, c7, p7, m7, k7, u7, f7, hr7, hbZ⟩ := hcut
         obtain ⟨Z1, hZ1⟩ : ∃ Z, Z = wc := ⟨_, rfl⟩
         rw [← hZ1] at u7 f7 hbZ
         rw [← hZ1]
         clear hZ1
         have HU1 : Hid (RVar Z1 (rA) na ao la ca po lp cp (va) ∧ RVar Z1 (rB) nb bo lb cb qo lq cq (vb) ∧ RVar Z1 (rC) nc co lc cc so lr cr (vc) ∧ RVar Z1 (r7) n7 o7 l7 c7 p7 m7 k7 (vb + vc)) := ⟨(HU0.out.1.later hbZ), (HU0.out.2.1.later hbZ), (HU0.out.2.2.later hbZ), u7⟩
         have HB1 : Hid (Below w.heap.size w Z1) := bnext HB0.out hbZ
         have KS1 : Hid (∀ w' : World, Below Z1.heap.size Z1 w' → w'.cell? ⟨rA, 0, none⟩ = some (.bool na) ∧ w'.cell? ⟨rA, 1, none⟩ = some (.slice ao la ca) ∧ w'.cell? ⟨rA, 2, none⟩ = some (.slice po lp cp) ∧ w'.cell? ⟨rB, 0, none⟩ = some (.bool nb) ∧ w'.cell? ⟨rB, 1, none⟩ = some (.slice bo lb cb) ∧ w'.cell? ⟨rB, 2, none⟩ = some (.slice qo lq cq) ∧ w'.cell? ⟨rC, 0, none⟩ = some (.bool nc) ∧ w'.cell? ⟨rC, 1, none⟩ = some (.slice co lc cc) ∧ w'.cell? ⟨rC, 2, none⟩ = some (.slice so lr cr) ∧ w'.cell? ⟨r7, 0, none⟩ = some (.bool n7) ∧ w'.cell? ⟨r7, 1, none⟩ = some (.slice o7 l7 c7) ∧ w'.cell? ⟨r7, 2, none⟩ = some (.slice p7 m7 k7)) := fun w' h => ⟨(HU1.out.1.box.later h HU1.out.1.lt).1, (HU1.out.1.box.later h HU1.out.1.lt).2.1, (HU1.out.1.box.later h HU1.out.1.lt).2.2, (HU1.out.2.1.box.later h HU1.out.2.1.lt).1, (HU1.out.2.1.box.later h HU1.out.2.1.lt).2.1, (HU1.out.2.1.box.later h HU1.out.2.1.lt).2.2, (HU1.out.2.2.1.box.later h HU1.out.2.2.1.lt).1, (HU1.out.2.2.1.box.later h HU1.out.2.2.1.lt).2.1, (HU1.out.2.2.1.box.later h HU1.out.2.2.1.lt).2.2, (HU1.out.2.2.2.box.later h HU1.out.2.2.2.lt).1, (HU1.out.2.2.2.box.later h HU1.out.2.2.2.lt).2.1, (HU1.out.2.2.2.box.later h HU1.out.2.2.2.lt).2.2⟩
         have HF7 : Hid ((∀ j, Z1.frozen? ⟨r7, j, none⟩ = false) ∧ Z0.heap.size ≤ r7 ∧ Below Z0.heap.size Z0 Z1) := ⟨f7, hr7, hbZ⟩
         clear u7 f7 hr7 hbZ KS0
         go_upto_region 11 with fail
         go_cut [83] (fun s83 wx => NewVar Z0 wx r7 (va * (vb + vc)))
         case first => as_aux_lemma =>
          obtain ⟨ga0, ga1, ga2⟩ := HU1.out.1.box
          obtain ⟨gb0, gb1, gb2⟩ := HU1.out.2.1.box
          obtain ⟨gc0, gc1, gc2⟩ := HU1.out.2.2.1.box
          obtain ⟨gx0, gx1, gx2⟩ := HU1.out.2.2.2.box
          go_wp2_with (go_at_call 20; refine (mul_rat na n7 ao po o7 p7 la ca lp cp l7 c7 m7 k7 va (vb + vc) _ HU1.out.1.rat HU1.out.2.2.2.rat (HSz.out.1.mono (by decide)) ((HSz.out.2.1.add HSz.out.2.2).mono (by decide)) (tab_later HT.out.1 HB1.out)).mono ?_; rintro e y5 ⟨n5, o5, l5, c5, p5, m5, k5, rfl, hs, ho, hp, _, hb5⟩; have HA5 : Hid (RatAt y5 n5 o5 l5 c5 p5 m5 k5 (va * (vb + vc)) ∧ Below Z0.heap.size Z0 y5) := ⟨⟨ho.int hs, hp.row⟩, bnext HF7.out.2.2 hb5⟩; clear hs ho hp; have HS5 : Hid (Boxed3 y5 r7 n7 o7 l7 c7 p7 m7 k7 ∧ (∀ j, y5.frozen? ⟨r7, j, none⟩ = false)) := ⟨HU1.out.2.2.2.box.later hb5 HU1.out.2.2.2.lt, fun j => (hb5.frozen (p := ⟨r7, j, none⟩) HU1.out.2.2.2.lt).trans (HF7.out.1 j)⟩; clear hb5; obtain ⟨⟨e0, e1, e2⟩, e3⟩ := HS5.out)
          go_meet
          exact nv_b HA5.out.1 HA5.out.2 HS5.out.1 HS5.out.2 HF7.out.2.1
         case rest => as_aux_lemma =>
          clear HF7 HU1 KS1 HB1
          obtain ⟨n8, o8, l8, c8, p8, m8, k8, u8, f8, hr8, hbZ⟩ := hcut
          obtain ⟨Z2, hZ2⟩ : ∃ Z, Z = wc := ⟨_, rfl⟩
          rw [← hZ2] at u8 f8 hbZ
          rw [← hZ2]
          clear hZ2
          have HU2 : Hid (RVar Z2 (rA) na ao la ca po lp cp (va) ∧ RVar Z2 (rB) nb bo lb cb qo lq cq (vb) ∧ RVar Z2 (rC) nc co lc cc so lr cr (vc) ∧ RVar Z2 (r7) n8 o8 l8 c8 p8 m8 k8 (va * (vb + vc))) := ⟨(HU0.out.1.later hbZ), (HU0.out.2.1.later hbZ), (HU0.out.2.2.later hbZ), u8⟩
          have HB2 : Hid (Below w.heap.size w Z2) := bnext HB0.out hbZ
          have KS2 : Hid (∀ w' : World, Below Z2.heap.size Z2 w' → w'.cell? ⟨rA, 0, none⟩ = some (.bool na) ∧ w'.cell? ⟨rA, 1, none⟩ = some (.slice ao la ca) ∧ w'.cell? ⟨rA, 2, none⟩ = some (.slice po lp cp) ∧ w'.cell? ⟨rB, 0, none⟩ = some (.bool nb) ∧ w'.cell? ⟨rB, 1, none⟩ = some (.slice bo lb cb) ∧ w'.cell? ⟨rB, 2, none⟩ = some (.slice qo lq cq) ∧ w'.cell? ⟨rC, 0, none⟩ = some (.bool nc) ∧ w'.cell? ⟨rC, 1, none⟩ = some (.slice co lc cc) ∧ w'.cell? ⟨rC, 2, none⟩ = some (.slice so lr cr) ∧ w'.cell? ⟨r7, 0, none⟩ = some (.bool n8) ∧ w'.cell? ⟨r7, 1, none⟩ = some (.slice o8 l8 c8) ∧ w'.cell? ⟨r7, 2, none⟩ = some (.slice p8 m8 k8)) := fun w' h => ⟨(HU2.out.1.box.later h HU2.out.1.lt).1, (HU2.out.1.box.later h HU2.out.1.lt).2.1, (HU2.out.1.box.later h HU2.out.1.lt).2.2, (HU2.out.2.1.box.later h HU2.out.2.1.lt).1, (HU2.out.2.1.box.later h HU2.out.2.1.lt).2.1, (HU2.out.2.1.box.later h HU2.out.2.1.lt).2.2, (HU2.out.2.2.1.box.later h HU2.out.2.2.1.lt).1, (HU2.out.2.2.1.box.later h HU2.out.2.2.1.lt).2.1, (HU2.out.2.2.1.box.later h HU2.out.2.2.1.lt).2.2, (HU2.out.2.2.2.box.later h HU2.out.2.2.2.lt).1, (HU2.out.2.2.2.box.later h HU2.out.2.2.2.lt).2.1, (HU2.out.2.2.2.box.later h HU2.out.2.2.2.lt).2.2⟩
          clear u8 f8 hr8 hbZ HU0 HB0
          go_upto_region 12 with fail
          go_cut [9] (fun s9 wx => ∃ r, s9 = .pointer (some ⟨r, 0, none⟩) ∧ NewVar Z2 wx r (va * vb))
          case first => as_aux_lemma =>
           obtain ⟨ga0, ga1, ga2⟩ := HU2.out.1.box
           obtain ⟨gb0, gb1, gb2⟩ := HU2.out.2.1.box
           obtain ⟨gc0, gc1, gc2⟩ := HU2.out.2.2.1.box
           obtain ⟨gx0, gx1, gx2⟩ := HU2.out.2.2.2.box
           go_wp2_with (go_at_call 20; refine (mul_rat na nb ao po bo qo la ca lp cp lb cb lq cq va vb _ HU2.out.1.rat HU2.out.2.1.rat (HSz.out.1.mono (by decide)) (HSz.out.2.1.mono (by decide)) (tab_later HT.out.1 HB2.out)).mono ?_; rintro e y5 ⟨n5, o5, l5, c5, p5, m5, k5, rfl, hs, ho, hp, _, hb5⟩; have HA5 : Hid (RatAt y5 n5 o5 l5 c5 p5 m5 k5 (va * vb) ∧ Below Z2.heap.size Z2 y5) := ⟨⟨ho.int hs, hp.row⟩, hb5⟩; clear hs ho hp hb5)
           go_meet
           exact ⟨_, rfl, nv_a HA5.out.1 HA5.out.2⟩
          case rest => as_aux_lemma =>
           obtain ⟨r9, rfl, n9, o9, l9, c9, p9, m9, k9, u9, f9, hr9, hbZ⟩ := hcut
           obtain ⟨Z3, hZ3⟩ : ∃ Z, Z = wc := ⟨_, rfl⟩
           rw [← hZ3] at u9 f9 hbZ
           rw [← hZ3]
           clear hZ3
           have HU3 : Hid (RVar Z3 (rA) na ao la ca po lp cp (va) ∧ RVar Z3 (rB) nb bo lb cb qo lq cq (vb) ∧ RVar Z3 (rC) nc co lc cc so lr cr (vc) ∧ RVar Z3 (r7) n8 o8 l8 c8 p8 m8 k8 (va * (vb + vc)) ∧ RVar Z3 (r9) n9 o9 l9 c9 p9 m9 k9 (va * vb)) := ⟨(HU2.out.1.later hbZ), (HU2.out.2.1.later hbZ), (HU2.out.2.2.1.later hbZ), (HU2.out.2.2.2.later hbZ), u9⟩
           have HB3 : Hid (Below w.heap.size w Z3) := bnext HB2.out hbZ
           have KS3 : Hid (∀ w' : World, Below Z3.heap.size Z3 w' → w'.cell? ⟨rA, 0, none⟩ = some (.bool na) ∧ w'.cell? ⟨rA, 1, none⟩ = some (.slice ao la ca) ∧ w'.cell? ⟨rA, 2, none⟩ = some (.slice po lp cp) ∧ w'.cell? ⟨rB, 0, none⟩ = some (.bool nb) ∧ w'.cell? ⟨rB, 1, none⟩ = some (.slice bo lb cb) ∧ w'.cell? ⟨rB, 2, none⟩ = some (.slice qo lq cq) ∧ w'.cell? ⟨rC, 0, none⟩ = some (.bool nc) ∧ w'.cell? ⟨rC, 1, none⟩ = some (.slice co lc cc) ∧ w'.cell? ⟨rC, 2, none⟩ = some (.slice so lr cr) ∧ w'.cell? ⟨r7, 0, none⟩ = some (.bool n8) ∧ w'.cell? ⟨r7, 1, none⟩ = some (.slice o8 l8 c8) ∧ w'.cell? ⟨r7, 2, none⟩ = some (.slice p8 m8 k8) ∧ w'.cell? ⟨r9, 0, none⟩ = some (.bool n9) ∧ w'.cell? ⟨r9, 1, none⟩ = some (.slice o9 l9 c9) ∧ w'.cell? ⟨r9, 2, none⟩ = some (.slice p9 m9 k9)) := fun w' h => ⟨(HU3.out.1.box.later h HU3.out.1.lt).1, (HU3.out.1.box.later h HU3.out.1.lt).2.1, (HU3.out.1.box.later h HU3.out.1.lt).2.2, (HU3.out.2.1.box.later h HU3.out.2.1.lt).1, (HU3.out.2.1.box.later h HU3.out.2.1.lt).2.1, (HU3.out.2.1.box.later h HU3.out.2.1.lt).2.2, (HU3.out.2.2.1.box.later h HU3.out.2.2.1.lt).1, (HU3.out.2.2.1.box.later h HU3.out.2.2.1.lt).2.1, (HU3.out.2.2.1.box.later h HU3.out.2.2.1.lt).2.2, (HU3.out.2.2.2.1.box.later h HU3.out.2.2.2.1.lt).1, (HU3.out.2.2.2.1.box.later h HU3.out.2.2.2.1.lt).2.1, (HU3.out.2.2.2.1.box.later h HU3.out.2.2.2.1.lt).2.2, (HU3.out.2.2.2.2.box.later h HU3.out.2.2.2.2.lt).1, (HU3.out.2.2.2.2.box.later h HU3.out.2.2.2.2.lt).2.1, (HU3.out.2.2.2.2.box.later h HU3.out.2.2.2.2.lt).2.2⟩
           have HF9 : Hid ((∀ j, Z3.frozen? ⟨r9, j, none⟩ = false) ∧ Z2.heap.size ≤ r9 ∧ Below Z2.heap.size Z2 Z3) := ⟨f9, hr9, hbZ⟩
           clear u9 f9 hr9 hbZ KS2
           go_upto_region 13 with fail
           go_cut [11] (fun s11 wx => ∃ r, s11 = .pointer (some ⟨r, 0, none⟩) ∧ NewVar Z3 wx r (va * vc))
           case first => as_aux_lemma =>
            obtain ⟨ga0, ga1, ga2⟩ := HU3.out.1.box
            obtain ⟨gb0, gb1, gb2⟩ := HU3.out.2.1.box
            obtain ⟨gc0, gc1, gc2⟩ := HU3.out.2.2.1.box
            obtain ⟨gx0, gx1, gx2⟩ := HU3.out.2.2.2.1.box
            obtain ⟨gy0, gy1, gy2⟩ := HU3.out.2.2.2.2.box
            go_wp2_with (go_at_call 20; refine (mul_rat na nc ao po co so la ca lp cp lc cc lr cr va vc _ HU3.out.1.rat HU3.out.2.2.1.rat (HSz.out.1.mono (by decide)) (HSz.out.2.2.mono (by decide)) (tab_later HT.out.1 HB3.out)).mono ?_; rintro e y5 ⟨n5, o5, l5, c5, p5, m5, k5, rfl, hs, ho, hp, _, hb5⟩; have HA5 : Hid (RatAt y5 n5 o5 l5 c5 p5 m5 k5 (va * vc) ∧ Below Z3.heap.size Z3 y5) := ⟨⟨ho.int hs, hp.row⟩, hb5⟩; clear hs ho hp hb5)
            go_meet
            exact ⟨_, rfl, nv_a HA5.out.1 HA5.out.2⟩
           case rest => as_aux_lemma =>
            obtain ⟨r11, rfl, n11, o11, l11, c11, p11, m11, k11, u11, f11, hr11, hbZ⟩ := hcut
            obtain ⟨Z4, hZ4⟩ : ∃ Z, Z = wc := ⟨_, rfl⟩
            rw [← hZ4] at u11 f11 hbZ
            rw [← hZ4]
            clear hZ4
            have HU4 : Hid (RVar Z4 (rA) na ao la ca po lp cp (va) ∧ RVar Z4 (rB) nb bo lb cb qo lq cq (vb) ∧ RVar Z4 (rC) nc co lc cc so lr cr (vc) ∧ RVar Z4 (r9) n9 o9 l9 c9 p9 m9 k9 (va * vb) ∧ RVar Z4 (r11) n11 o11 l11 c11 p11 m11 k11 (va * vc)) := ⟨(HU3.out.1.later hbZ), (HU3.out.2.1.later hbZ), (HU3.out.2.2.1.later hbZ), (HU3.out.2.2.2.2.later hbZ), u11⟩
            have HB4 : Hid (Below w.heap.size w Z4) := bnext HB3.out hbZ
            have KS4 : Hid (∀ w' : World, Below Z4.heap.size Z4 w' → w'.cell? ⟨rA, 0, none⟩ = some (.bool na) ∧ w'.cell? ⟨rA, 1, none⟩ = some (.slice ao la ca) ∧ w'.cell? ⟨rA, 2, none⟩ = some (.slice po lp cp) ∧ w'.cell? ⟨rB, 0, none⟩ = some (.bool nb) ∧ w'.cell? ⟨rB, 1, none⟩ = some (.slice bo lb cb) ∧ w'.cell? ⟨rB, 2, none⟩ = some (.slice qo lq cq) ∧ w'.cell? ⟨rC, 0, none⟩ = some (.bool nc) ∧ w'.cell? ⟨rC, 1, none⟩ = some (.slice co lc cc) ∧ w'.cell? ⟨rC, 2, none⟩ = some (.slice so lr cr) ∧ w'.cell? ⟨r9, 0, none⟩ = some (.bool n9) ∧ w'.cell? ⟨r9, 1, none⟩ = some (.slice o9 l9 c9) ∧ w'.cell? ⟨r9, 2, none⟩ = some (.slice p9 m9 k9) ∧ w'.cell? ⟨r11, 0, none⟩ = some (.bool n11) ∧ w'.cell? ⟨r11, 1, none⟩ = some (.slice o11 l11 c11) ∧ w'.cell? ⟨r11, 2, none⟩ = some (.slice p11 m11 k11)) := fun w' h => ⟨(HU4.out.1.box.later h HU4.out.1.lt).1, (HU4.out.1.box.later h HU4.out.1.lt).2.1, (HU4.out.1.box.later h HU4.out.1.lt).2.2, (HU4.out.2.1.box.later h HU4.out.2.1.lt).1, (HU4.out.2.1.box.later h HU4.out.2.1.lt).2.1, (HU4.out.2.1.box.later h HU4.out.2.1.lt).2.2, (HU4.out.2.2.1.box.later h HU4.out.2.2.1.lt).1, (HU4.out.2.2.1.box.later h HU4.out.2.2.1.lt).2.1, (HU4.out.2.2.1.box.later h HU4.out.2.2.1.lt).2.2, (HU4.out.2.2.2.1.box.later h HU4.out.2.2.2.1.lt).1, (HU4.out.2.2.2.1.box.later h HU4.out.2.2.2.1.lt).2.1, (HU4.out.2.2.2.1.box.later h HU4.out.2.2.2.1.lt).2.2, (HU4.out.2.2.2.2.box.later h HU4.out.2.2.2.2.lt).1, (HU4.out.2.2.2.2.box.later h HU4.out.2.2.2.2.lt).2.1, (HU4.out.2.2.2.2.box.later h HU4.out.2.2.2.2.lt).2.2⟩
            have HF4 : Hid ((∀ j, Z4.frozen? ⟨r9, j, none⟩ = false) ∧ Z2.heap.size ≤ r9 ∧ Below Z2.heap.size Z2 Z4) := ⟨fun j => (hbZ.frozen (p := ⟨r9, j, none⟩) HU3.out.2.2.2.2.lt).trans (HF9.out.1 j), HF9.out.2.1, bnext HF9.out.2.2 hbZ⟩
            have HV : Hid (va * vb + va * vc = va * (vb + vc)) := (Rat.mul_add va vb vc).symm
            clear u11 f11 hr11 hbZ KS3 HF9 HU3 HB3
            go_upto_region 14 with fail
            go_cut [101] (fun s101 wx => NewVar Z2 wx r9 (va * (vb + vc)))
            case first => as_aux_lemma =>
             obtain ⟨ga0, ga1, ga2⟩ := HU4.out.1.box
             obtain ⟨gb0, gb1, gb2⟩ := HU4.out.2.1.box
             obtain ⟨gc0, gc1, gc2⟩ := HU4.out.2.2.1.box
             obtain ⟨gy0, gy1, gy2⟩ := HU4.out.2.2.2.1.box
             obtain ⟨gs0, gs1, gs2⟩ := HU4.out.2.2.2.2.box
             go_wp2_with (go_at_call 17; refine (add_rat n9 n11 o9 p9 o11 p11 l9 c9 m9 k9 l11 c11 m11 k11 (va * vb) (va * vc) _ HU4.out.2.2.2.1.rat HU4.out.2.2.2.2.rat ((HSz.out.1.mul HSz.out.2.1).mono (by decide)) ((HSz.out.1.mul HSz.out.2.2).mono (by decide)) (tab_later HT.out.1 HB4.out)).mono ?_; rw [HV.out]; rintro e y5 ⟨n5, o5, l5, c5, p5, m5, k5, rfl, hs, ho, hp, _, hb5⟩; have HA5 : Hid (RatAt y5 n5 o5 l5 c5 p5 m5 k5 (va * (vb + vc)) ∧ Below Z2.heap.size Z2 y5) := ⟨⟨ho.int hs, hp.row⟩, bnext HF4.out.2.2 hb5⟩; clear hs ho hp; have HS5 : Hid (Boxed3 y5 r9 n9 o9 l9 c9 p9 m9 k9 ∧ (∀ j, y5.frozen? ⟨r9, j, none⟩ = false)) := ⟨HU4.out.2.2.2.1.box.later hb5 HU4.out.2.2.2.1.lt, fun j => (hb5.frozen (p := ⟨r9, j, none⟩) HU4.out.2.2.2.1.lt).trans (HF4.out.1 j)⟩; clear hb5; obtain ⟨⟨e0, e1, e2⟩, e3⟩ := HS5.out)
             go_meet
             exact nv_b HA5.out.1 HA5.out.2 HS5.out.1 HS5.out.2 HF4.out.2.1
            case rest => as_aux_lemma =>
             clear HF4 HU4 KS4 HB4 HV
             obtain ⟨n10, o10, l10, c10, p10, m10, k10, u10, f10, hr10, hbZ⟩ := hcut
             obtain ⟨Z5, hZ5⟩ : ∃ Z, Z = wc := ⟨_, rfl⟩
             rw [← hZ5] at u10 f10 hbZ
             rw [← hZ5]
             clear hZ5
             have HU5 : Hid (RVar Z5 (rA) na ao la ca po lp cp (va) ∧ RVar Z5 (rB) nb bo lb cb qo lq cq (vb) ∧ RVar Z5 (r7) n8 o8 l8 c8 p8 m8 k8 (va * (vb + vc)) ∧ RVar Z5 (r9) n10 o10 l10 c10 p10 m10 k10 (va * (vb + vc))) := ⟨(HU2.out.1.later hbZ), (HU2.out.2.1.later hbZ), (HU2.out.2.2.2.later hbZ), u10⟩
             have HB5 : Hid (Below w.heap.size w Z5) := bnext HB2.out hbZ
             have KS5 : Hid (∀ w' : World, Below Z5.heap.size Z5 w' → w'.cell? ⟨rA, 0, none⟩ = some (.bool na) ∧ w'.cell? ⟨rA, 1, none⟩ = some (.slice ao la ca) ∧ w'.cell? ⟨rA, 2, none⟩ = some (.slice po lp cp) ∧ w'.cell? ⟨rB, 0, none⟩ = some (.bool nb) ∧ w'.cell? ⟨rB, 1, none⟩ = some (.slice bo lb cb) ∧ w'.cell? ⟨rB, 2, none⟩ = some (.slice qo lq cq) ∧ w'.cell? ⟨r7, 0, none⟩ = some (.bool n8) ∧ w'.cell? ⟨r7, 1, none⟩ = some (.slice o8 l8 c8) ∧ w'.cell? ⟨r7, 2, none⟩ = some (.slice p8 m8 k8) ∧ w'.cell? ⟨r9, 0, none⟩ = some (.bool n10) ∧ w'.cell? ⟨r9, 1, none⟩ = some (.slice o10 l10 c10) ∧ w'.cell? ⟨r9, 2, none⟩ = some (.slice p10 m10 k10)) := fun w' h => ⟨(HU5.out.1.box.later h HU5.out.1.lt).1, (HU5.out.1.box.later h HU5.out.1.lt).2.1, (HU5.out.1.box.later h HU5.out.1.lt).2.2, (HU5.out.2.1.box.later h HU5.out.2.1.lt).1, (HU5.out.2.1.box.later h HU5.out.2.1.lt).2.1, (HU5.out.2.1.box.later h HU5.out.2.1.lt).2.2, (HU5.out.2.2.1.box.later h HU5.out.2.2.1.lt).1, (HU5.out.2.2.1.box.later h HU5.out.2.2.1.lt).2.1, (HU5.out.2.2.1.box.later h HU5.out.2.2.1.lt).2.2, (HU5.out.2.2.2.box.later h HU5.out.2.2.2.lt).1, (HU5.out.2.2.2.box.later h HU5.out.2.2.2.lt).2.1, (HU5.out.2.2.2.box.later h HU5.out.2.2.2.lt).2.2⟩
             clear u10 f10 hr10 hbZ HU2 HB2
             have HSX : Hid (Sz (va * (vb + vc)) 1000) := (HSz.out.1.mul (HSz.out.2.1.add HSz.out.2.2)).mono (by decide)
             go_upto_region 15 with fail
             go_cut [120] (fun s120 wx => s120 = .bool false ∧ Below Z5.heap.size Z5 wx)
             case first =>
              obtain ⟨c1, hc1⟩ : ∃ c, cmpQ va vb = c := ⟨_, rfl⟩
              obtain ⟨c2, hc2⟩ : ∃ c, cmpQ vb va = c := ⟨_, rfl⟩
              have HC : Hid (cmpQ va vb = c1 ∧ cmpQ vb va = c2) := ⟨hc1, hc2⟩
              have hcc : (c1 = -1 ∧ c2 = 1) ∨ (c1 = 0 ∧ c2 = 0) ∨ (c1 = 1 ∧ c2 = -1) := (by have h := cmpQ_neg va vb; rw [hc1, hc2] at h; rcases cmpI_vals (va.num * (vb.den : Int)) (vb.num * (va.den : Int)) with h' | h' | h' <;> (have h2 : c1 = _ := hc1.symm.trans h'; omega))
              clear hc1 hc2
              rcases hcc with ⟨rfl, rfl⟩ | ⟨rfl, rfl⟩ | ⟨rfl, rfl⟩
              all_goals as_aux_lemma =>
               refine wp_region_noPanic ?_
               refine wp_region_held_drew (S := fun w' => (w'.cell? ⟨rA, 0, none⟩ = some (.bool na) ∧ w'.cell? ⟨rA, 1, none⟩ = some (.slice ao la ca) ∧ w'.cell? ⟨rA, 2, none⟩ = some (.slice po lp cp) ∧ w'.cell? ⟨rB, 0, none⟩ = some (.bool nb) ∧ w'.cell? ⟨rB, 1, none⟩ = some (.slice bo lb cb) ∧ w'.cell? ⟨rB, 2, none⟩ = some (.slice qo lq cq) ∧ w'.cell? ⟨r7, 0, none⟩ = some (.bool n8) ∧ w'.cell? ⟨r7, 1, none⟩ = some (.slice o8 l8 c8) ∧ w'.cell? ⟨r7, 2, none⟩ = some (.slice p8 m8 k8) ∧ w'.cell? ⟨r9, 0, none⟩ = some (.bool n10) ∧ w'.cell? ⟨r9, 1, none⟩ = some (.slice o10 l10 c10) ∧ w'.cell? ⟨r9, 2, none⟩ = some (.slice p10 m10 k10))) (by kernel_rfl) (by (try dsimp only); exact KS5.out _ (Below.refl _ _).drew) (fun hHeld => ?_)
               refine wpAnyH_take (i := 0) (oi := Oper.mk (some 107) _ _ _ _ _) (v := ?_) rfl (by kernel_rfl) (by kernel_rfl) (by kernel_rfl) (fun _ _ _ h => h) (Or.inl ⟨by rfl, ?_⟩) (by assumption) ?_
               rotate_left
               ·
                (intro w hSw; (try dsimp only at hSw); go_simp <;> (try with_reducible rfl))
               (try simp only [Act.put, List.setIfInBounds_toArray, List.set_cons_zero, List.set_cons_succ])
               refine wpAnyH_take (i := 1) (oi := Oper.mk (some 108) _ _ _ _ _) (v := ?_) rfl (by kernel_rfl) (by kernel_rfl) (by kernel_rfl) (fun _ _ _ h => h) (Or.inl ⟨by rfl, ?_⟩) (by assumption) ?_
               rotate_left
               ·
                (intro w hSw; (try dsimp only at hSw); go_simp <;> (try with_reducible rfl))
               (try simp only [Act.put, List.setIfInBounds_toArray, List.set_cons_zero, List.set_cons_succ])
               refine wpAnyH_ready (rs := [2]) (by kernel_rfl) (by simp) ?_
               refine AllReadyH.cons (o := Oper.mk (some 109) _ _ _ _ _) rfl (fun K hK => ?_) AllReadyH.nil
               go_simp
               (go_at_call 22; refine (eqrat_same n8 n10 o8 p8 o10 p10 l8 c8 m8 k8 l10 c10 m10 k10 (va * (vb + vc)) _ (HU5.out.2.2.1.rat.later (Below.refl _ _).drew) (HU5.out.2.2.2.rat.later (Below.refl _ _).drew) (by have := (HU5.out.2.2.1.rat.len HSX.out).1; omega) (by have := (HU5.out.2.2.1.rat.len HSX.out).2; omega)).mono ?_; rintro e f1 ⟨rfl, hb⟩; skip; have hbF1 : Below Z5.heap.size Z5 f1 := bnext (Below.refl _ _).drew hb; clear hb)
               (try go_wp2_with fail)
               clear hHeld
               refine hK.out _ _ (by (try dsimp only); first | exact KS5.out _ (Below.refl _ _).drew | exact KS5.out _ (by assumption)) (fun hHeld => ?_)
               clear hK K
               (try simp only [Act.put, List.setIfInBounds_toArray, List.set_cons_zero, List.set_cons_succ])
               refine wpAnyH_take (i := 3) (oi := Oper.mk (some 110) _ _ _ _ _) (v := ?_) rfl (by kernel_rfl) (by kernel_rfl) (by kernel_rfl) (fun _ _ _ h => h) (Or.inl ⟨by rfl, ?_⟩) (by assumption) ?_
               rotate_left
               ·
                (intro w hSw; (try dsimp only at hSw); go_simp <;> (try with_reducible rfl))
               (try simp only [Act.put, List.setIfInBounds_toArray, List.set_cons_zero, List.set_cons_succ])
               refine wpAnyH_take (i := 4) (oi := Oper.mk (some 111) _ _ _ _ _) (v := ?_) rfl (by kernel_rfl) (by kernel_rfl) (by kernel_rfl) (fun _ _ _ h => h) (Or.inl ⟨by rfl, ?_⟩) (by assumption) ?_
               rotate_left
               ·
                (intro w hSw; (try dsimp only at hSw); go_simp <;> (try with_reducible rfl))
               (try simp only [Act.put, List.setIfInBounds_toArray, List.set_cons_zero, List.set_cons_succ])
               refine wpAnyH_take (i := 5) (oi := Oper.mk (some 112) _ _ _ _ _) (v := ?_) rfl (by kernel_rfl) (by kernel_rfl) (by kernel_rfl) (fun _ _ _ h => h) (Or.inl ⟨by rfl, ?_⟩) (by assumption) ?_
               rotate_left
               ·
                (intro w hSw; (try dsimp only at hSw); go_simp <;> (try with_reducible rfl))
               (try simp only [Act.put, List.setIfInBounds_toArray, List.set_cons_zero, List.set_cons_succ])
               refine wpAnyH_take (i := 6) (oi := Oper.mk (some 113) _ _ _ _ _) (v := ?_) rfl (by kernel_rfl) (by kernel_rfl) (by kernel_rfl) (fun _ _ _ h => h) (Or.inl ⟨by rfl, ?_⟩) (by assumption) ?_
               rotate_left
               ·
                (intro w hSw; (try dsimp only at hSw); go_simp <;> (try with_reducible rfl))
               (try simp only [Act.put, List.setIfInBounds_toArray, List.set_cons_zero, List.set_cons_succ])
               refine wpAnyH_take (i := 8) (oi := Oper.mk (some 115) _ _ _ _ _) (v := ?_) rfl (by kernel_rfl) (by kernel_rfl) (by kernel_rfl) (fun _ _ _ h => h) (Or.inl ⟨by rfl, ?_⟩) (by assumption) ?_
               rotate_left
               ·
                (intro w hSw; (try dsimp only at hSw); go_simp <;> (try with_reducible rfl))
               (try simp only [Act.put, List.setIfInBounds_toArray, List.set_cons_zero, List.set_cons_succ])
               refine wpAnyH_take (i := 9) (oi := Oper.mk (some 116) _ _ _ _ _) (v := ?_) rfl (by kernel_rfl) (by kernel_rfl) (by kernel_rfl) (fun _ _ _ h => h) (Or.inl ⟨by rfl, ?_⟩) (by assumption) ?_
               rotate_left
               ·
                (intro w hSw; (try dsimp only at hSw); go_simp <;> (try with_reducible rfl))
               (try simp only [Act.put, List.setIfInBounds_toArray, List.set_cons_zero, List.set_cons_succ])
               refine wpAnyH_ready (rs := [7]) (by kernel_rfl) (by simp) ?_
               refine AllReadyH.cons (o := Oper.mk (some 114) _ _ _ _ _) rfl (fun K hK => ?_) AllReadyH.nil
               go_simp
               (go_at_call 45; refine (cmp_rat na nb ao po bo qo la ca lp cp lb cb lq cq va vb _ (HU5.out.1.rat.later hbF1) (HU5.out.2.1.rat.later hbF1) (HSz.out.1.mono (by decide)) (HSz.out.2.1.mono (by decide)) (tab_later HT.out.1 (bnext HB5.out hbF1)) _ HC.out.1).mono ?_; rintro e f2 ⟨rfl, hb⟩; skip; have hbF2 : Below Z5.heap.size Z5 f2 := bnext hbF1 hb; clear hb)
               (try go_wp2_with fail)
               clear hHeld
               refine hK.out _ _ (by (try dsimp only); first | exact KS5.out _ (Below.refl _ _).drew | exact KS5.out _ (by assumption)) (fun hHeld => ?_)
               clear hK K
               (try simp only [Act.put, List.setIfInBounds_toArray, List.set_cons_zero, List.set_cons_succ])
               refine wpAnyH_ready (rs := [10]) (by kernel_rfl) (by simp) ?_
               refine AllReadyH.cons (o := Oper.mk (some 117) _ _ _ _ _) rfl (fun K hK => ?_) AllReadyH.nil
               go_simp
               (go_at_call 45; refine (cmp_rat nb na bo qo ao po lb cb lq cq la ca lp cp vb va _ (HU5.out.2.1.rat.later hbF2) (HU5.out.1.rat.later hbF2) (HSz.out.2.1.mono (by decide)) (HSz.out.1.mono (by decide)) (tab_later HT.out.1 (bnext HB5.out hbF2)) _ HC.out.2).mono ?_; rintro e f3 ⟨rfl, hb⟩; skip; have hbF3 : Below Z5.heap.size Z5 f3 := bnext hbF2 hb; clear hb)
               (try go_wp2_with fail)
               clear hHeld
               refine hK.out _ _ (by (try dsimp only); first | exact KS5.out _ (Below.refl _ _).drew | exact KS5.out _ (by assumption)) (fun hHeld => ?_)
               clear hK K
               (try simp only [Act.put, List.setIfInBounds_toArray, List.set_cons_zero, List.set_cons_succ])
               refine wpAnyH_take (i := 11) (oi := Oper.mk (some 118) _ _ _ _ _) (v := ?_) rfl (by kernel_rfl) (by kernel_rfl) (by kernel_rfl) (fun _ _ _ h => h) (Or.inl ⟨by rfl, ?_⟩) (by assumption) ?_
               rotate_left
               ·
                (intro w hSw; (try dsimp only at hSw); go_simp <;> (try with_reducible rfl))
               (try simp only [Act.put, List.setIfInBounds_toArray, List.set_cons_zero, List.set_cons_succ])
               refine wpAnyH_take (i := 12) (oi := Oper.mk (some 119) _ _ _ _ _) (v := ?_) rfl (by kernel_rfl) (by kernel_rfl) (by kernel_rfl) (fun _ _ _ h => h) (Or.inl ⟨by rfl, ?_⟩) (by assumption) ?_
               rotate_left
               ·
                (intro w hSw; (try dsimp only at hSw); go_simp <;> (try with_reducible rfl))
               (try simp only [Act.put, List.setIfInBounds_toArray, List.set_cons_zero, List.set_cons_succ])
               refine wpAnyH_take (i := 13) (oi := Oper.mk (some 120) _ _ _ _ _) (v := ?_) rfl (by kernel_rfl) (by kernel_rfl) (by kernel_rfl) (fun _ _ _ h => h) (Or.inl ⟨by rfl, ?_⟩) (by assumption) ?_
               rotate_left
               ·
                (intro w hSw; (try dsimp only at hSw); go_simp <;> (try with_reducible rfl))
               (try simp only [Act.put, List.setIfInBounds_toArray, List.set_cons_zero, List.set_cons_succ])
               refine wpAnyH_done (by kernel_rfl) ?_ _
               refine NoPanic.normal ?_
               go_wp2
               go_meet
               exact ⟨rfl, hbF3⟩
             case rest => as_aux_lemma =>
              obtain ⟨rfl, hbZ⟩ := hcut
              obtain ⟨Z6, hZ6⟩ : ∃ Z, Z = wc := ⟨_, rfl⟩
              rw [← hZ6] at hbZ
              rw [← hZ6]
              clear hZ6
              have HU6 : Hid (RVar Z6 (rA) na ao la ca po lp cp (va) ∧ RVar Z6 (rB) nb bo lb cb qo lq cq (vb)) := ⟨(HU5.out.1.later hbZ), (HU5.out.2.1.later hbZ)⟩
              have HB6 : Hid (Below w.heap.size w Z6) := bnext HB5.out hbZ
              have KS6 : Hid (∀ w' : World, Below Z6.heap.size Z6 w' → w'.cell? ⟨rA, 0, none⟩ = some (.bool na) ∧ w'.cell? ⟨rA, 1, none⟩ = some (.slice ao la ca) ∧ w'.cell? ⟨rA, 2, none⟩ = some (.slice po lp cp) ∧ w'.cell? ⟨rB, 0, none⟩ = some (.bool nb) ∧ w'.cell? ⟨rB, 1, none⟩ = some (.slice bo lb cb) ∧ w'.cell? ⟨rB, 2, none⟩ = some (.slice qo lq cq)) := fun w' h => ⟨(HU6.out.1.box.later h HU6.out.1.lt).1, (HU6.out.1.box.later h HU6.out.1.lt).2.1, (HU6.out.1.box.later h HU6.out.1.lt).2.2, (HU6.out.2.box.later h HU6.out.2.lt).1, (HU6.out.2.box.later h HU6.out.2.lt).2.1, (HU6.out.2.box.later h HU6.out.2.lt).2.2⟩
              clear hbZ HU5 HB5 KS5 HSX
              go_upto_region 17 with fail
              obtain ⟨bz, hbz⟩ : ∃ b : Bool, decide (va.num ≠ 0) = b := ⟨_, rfl⟩
              have HBZ : Hid (decide (va.num ≠ 0) = bz) := hbz
              clear hbz
              go_cut [123] (fun s123 wx => s123 = .bool bz ∧ Below Z6.heap.size Z6 wx)
              case first =>
               rcases cmpI_vals va.num 0 with hc | hc | hc
               ·
                as_aux_lemma =>
                obtain rfl : bz = true := HBZ.out.symm.trans (decide_eq_true (by have := hc; unfold cmpI at this; intro e; rw [e] at this; simp at this))
                have HC : Hid (cmpI va.num 0 = (-1)) := hc
                clear hc
                obtain ⟨ga0, ga1, ga2⟩ := HU6.out.1.box
                obtain ⟨gb0, gb1, gb2⟩ := HU6.out.2.box
                go_wp2_with (go_at_call 30; refine (sign_rat na ao po la ca lp cp va _ HU6.out.1.rat (by omega) (by omega) (tab_later HT.out.1 HB6.out) (-1) HC.out).mono ?_; rintro e y5 ⟨rfl, hb5⟩)
                go_meet
                exact ⟨rfl, hb5⟩
               ·
                as_aux_lemma =>
                obtain rfl : bz = false := HBZ.out.symm.trans (decide_eq_false (fun h => by have := hc; unfold cmpI at this; split at this; omega; split at this; omega; omega))
                have HC : Hid (cmpI va.num 0 = 0) := hc
                clear hc
                obtain ⟨ga0, ga1, ga2⟩ := HU6.out.1.box
                obtain ⟨gb0, gb1, gb2⟩ := HU6.out.2.box
                go_wp2_with (go_at_call 30; refine (sign_rat na ao po la ca lp cp va _ HU6.out.1.rat (by omega) (by omega) (tab_later HT.out.1 HB6.out) 0 HC.out).mono ?_; rintro e y5 ⟨rfl, hb5⟩)
                go_meet
                exact ⟨rfl, hb5⟩
               ·
                as_aux_lemma =>
                obtain rfl : bz = true := HBZ.out.symm.trans (decide_eq_true (by have := hc; unfold cmpI at this; intro e; rw [e] at this; simp at this))
                have HC : Hid (cmpI va.num 0 = 1) := hc
                clear hc
                obtain ⟨ga0, ga1, ga2⟩ := HU6.out.1.box
                obtain ⟨gb0, gb1, gb2⟩ := HU6.out.2.box
                go_wp2_with (go_at_call 30; refine (sign_rat na ao po la ca lp cp va _ HU6.out.1.rat (by omega) (by omega) (tab_later HT.out.1 HB6.out) 1 HC.out).mono ?_; rintro e y5 ⟨rfl, hb5⟩)
                go_meet
                exact ⟨rfl, hb5⟩
              case rest => as_aux_lemma =>
               obtain ⟨rfl, hbZ⟩ := hcut
               obtain ⟨Z7, hZ7⟩ : ∃ Z, Z = wc := ⟨_, rfl⟩
               rw [← hZ7] at hbZ
               rw [← hZ7]
               clear hZ7
               have HU7 : Hid (RVar Z7 (rA) na ao la ca po lp cp (va) ∧ RVar Z7 (rB) nb bo lb cb qo lq cq (vb)) := ⟨(HU6.out.1.later hbZ), (HU6.out.2.later hbZ)⟩
               have HB7 : Hid (Below w.heap.size w Z7) := bnext HB6.out hbZ
               have KS7 : Hid (∀ w' : World, Below Z7.heap.size Z7 w' → w'.cell? ⟨rA, 0, none⟩ = some (.bool na) ∧ w'.cell? ⟨rA, 1, none⟩ = some (.slice ao la ca) ∧ w'.cell? ⟨rA, 2, none⟩ = some (.slice po lp cp) ∧ w'.cell? ⟨rB, 0, none⟩ = some (.bool nb) ∧ w'.cell? ⟨rB, 1, none⟩ = some (.slice bo lb cb) ∧ w'.cell? ⟨rB, 2, none⟩ = some (.slice qo lq cq)) := fun w' h => ⟨(HU7.out.1.box.later h HU7.out.1.lt).1, (HU7.out.1.box.later h HU7.out.1.lt).2.1, (HU7.out.1.box.later h HU7.out.1.lt).2.2, (HU7.out.2.box.later h HU7.out.2.lt).1, (HU7.out.2.box.later h HU7.out.2.lt).2.1, (HU7.out.2.box.later h HU7.out.2.lt).2.2⟩
               clear hbZ HU6 HB6 KS6
               go_upto_if 123 with fail
               go_cut [123] (fun s123 wx => Below Z7.heap.size Z7 wx)
               case first =>
                cases bz
                ·
                 as_aux_lemma =>
                 go_wp2
                 go_meet
                 exact Below.refl _ _
                ·
                 as_aux_lemma =>
                 have HZ0 : Hid (va ≠ 0) := (fun e => (of_decide_eq_true HBZ.out) (by rw [e]; rfl))
                 have HDV : Hid (vb / va * va = vb) := Rat.div_mul_cancel HZ0.out
                 have HPV : Hid (va ^ (-1 : Int) * va = ((1 : Int) : Rat)) := (by rw [zpow_one_inv, Rat.inv_mul_cancel va HZ0.out]; rfl)
                 have HSI : Hid (Sz (va ^ (-1 : Int)) 1000) := (by rw [zpow_one_inv]; exact (HSz.out.1.inv HZ0.out).mono (by decide))
                 go_upto_region 18 with fail
                 go_cut [13, 14] (fun s13 s14 wx => ∃ r, s13 = .pointer (some ⟨r, 0, none⟩) ∧ s14 = .int .i64 0 ∧ NewVar Z7 wx r (vb / va))
                 case first => as_aux_lemma =>
                  obtain ⟨ga0, ga1, ga2⟩ := HU7.out.1.box
                  obtain ⟨gb0, gb1, gb2⟩ := HU7.out.2.box
                  go_wp2_with (go_at_call 21; refine (div_rat nb na bo qo ao po lb cb lq cq la ca lp cp vb va _ HU7.out.2.rat HU7.out.1.rat (HSz.out.2.1.mono (by decide)) (HSz.out.1.mono (by decide)) HZ0.out (tab_later HT.out.1 HB7.out)).mono ?_; rintro e y5 ⟨n5, o5, l5, c5, p5, m5, k5, rfl, hs, ho, hp, _, hb5⟩; have HA5 : Hid (RatAt y5 n5 o5 l5 c5 p5 m5 k5 (vb / va) ∧ Below Z7.heap.size Z7 y5) := ⟨⟨ho.int hs, hp.row⟩, hb5⟩; clear hs ho hp hb5)
                  go_meet
                  exact ⟨_, rfl, rfl, nv_a HA5.out.1 HA5.out.2⟩
                 case rest => as_aux_lemma =>
                  obtain ⟨r13, rfl, rfl, n13, o13, l13, c13, p13, m13, k13, u13, f13, hr13, hbZ⟩ := hcut
                  obtain ⟨Z8, hZ8⟩ : ∃ Z, Z = wc := ⟨_, rfl⟩
                  rw [← hZ8] at u13 f13 hbZ
                  rw [← hZ8]
                  clear hZ8
                  have HU8 : Hid (RVar Z8 (rA) na ao la ca po lp cp (va) ∧ RVar Z8 (rB) nb bo lb cb qo lq cq (vb) ∧ RVar Z8 (r13) n13 o13 l13 c13 p13 m13 k13 (vb / va)) := ⟨(HU7.out.1.later hbZ), (HU7.out.2.later hbZ), u13⟩
                  have HB8 : Hid (Below w.heap.size w Z8) := bnext HB7.out hbZ
                  have KS8 : Hid (∀ w' : World, Below Z8.heap.size Z8 w' → w'.cell? ⟨rA, 0, none⟩ = some (.bool na) ∧ w'.cell? ⟨rA, 1, none⟩ = some (.slice ao la ca) ∧ w'.cell? ⟨rA, 2, none⟩ = some (.slice po lp cp) ∧ w'.cell? ⟨rB, 0, none⟩ = some (.bool nb) ∧ w'.cell? ⟨rB, 1, none⟩ = some (.slice bo lb cb) ∧ w'.cell? ⟨rB, 2, none⟩ = some (.slice qo lq cq) ∧ w'.cell? ⟨r13, 0, none⟩ = some (.bool n13) ∧ w'.cell? ⟨r13, 1, none⟩ = some (.slice o13 l13 c13) ∧ w'.cell? ⟨r13, 2, none⟩ = some (.slice p13 m13 k13)) := fun w' h => ⟨(HU8.out.1.box.later h HU8.out.1.lt).1, (HU8.out.1.box.later h HU8.out.1.lt).2.1, (HU8.out.1.box.later h HU8.out.1.lt).2.2, (HU8.out.2.1.box.later h HU8.out.2.1.lt).1, (HU8.out.2.1.box.later h HU8.out.2.1.lt).2.1, (HU8.out.2.1.box.later h HU8.out.2.1.lt).2.2, (HU8.out.2.2.box.later h HU8.out.2.2.lt).1, (HU8.out.2.2.box.later h HU8.out.2.2.lt).2.1, (HU8.out.2.2.box.later h HU8.out.2.2.lt).2.2⟩
                  have HY8 : Hid (Below Z7.heap.size Z7 Z8) := hbZ
                  clear u13 f13 hr13 hbZ HU7 HB7 KS7
                  go_upto_region 19 with fail
                  go_cut [15, 16] (fun s15 s16 wx => ∃ r, s15 = .pointer (some ⟨r, 0, none⟩) ∧ s16 = .int .i64 0 ∧ NewVar Z8 wx r (vb))
                  case first => as_aux_lemma =>
                   obtain ⟨ga0, ga1, ga2⟩ := HU8.out.1.box
                   obtain ⟨gb0, gb1, gb2⟩ := HU8.out.2.1.box
                   obtain ⟨gu0, gu1, gu2⟩ := HU8.out.2.2.box
                   go_wp2_with (go_at_call 20; refine (mul_rat n13 na o13 p13 ao po l13 c13 m13 k13 la ca lp cp (vb / va) va _ HU8.out.2.2.rat HU8.out.1.rat ((HSz.out.2.1.div HSz.out.1 HZ0.out).mono (by decide)) (HSz.out.1.mono (by decide)) (tab_later HT.out.1 HB8.out)).mono ?_; rintro e y5 ⟨n5, o5, l5, c5, p5, m5, k5, rfl, hs, ho, hp, _, hb5⟩; rw [HDV.out] at hs ho hp; have HA5 : Hid (RatAt y5 n5 o5 l5 c5 p5 m5 k5 (vb) ∧ Below Z8.heap.size Z8 y5) := ⟨⟨ho.int hs, hp.row⟩, hb5⟩; clear hs ho hp hb5)
                   go_meet
                   exact ⟨_, rfl, rfl, nv_a HA5.out.1 HA5.out.2⟩
                  case rest => as_aux_lemma =>
                   obtain ⟨r15, rfl, rfl, n15, o15, l15, c15, p15, m15, k15, u15, f15, hr15, hbZ⟩ := hcut
                   obtain ⟨Z9, hZ9⟩ : ∃ Z, Z = wc := ⟨_, rfl⟩
                   rw [← hZ9] at u15 f15 hbZ
                   rw [← hZ9]
                   clear hZ9
                   have HU9 : Hid (RVar Z9 (rA) na ao la ca po lp cp (va) ∧ RVar Z9 (rB) nb bo lb cb qo lq cq (vb) ∧ RVar Z9 (r15) n15 o15 l15 c15 p15 m15 k15 (vb)) := ⟨(HU8.out.1.later hbZ), (HU8.out.2.1.later hbZ), u15⟩
                   have HB9 : Hid (Below w.heap.size w Z9) := bnext HB8.out hbZ
                   have KS9 : Hid (∀ w' : World, Below Z9.heap.size Z9 w' → w'.cell? ⟨rA, 0, none⟩ = some (.bool na) ∧ w'.cell? ⟨rA, 1, none⟩ = some (.slice ao la ca) ∧ w'.cell? ⟨rA, 2, none⟩ = some (.slice po lp cp) ∧ w'.cell? ⟨rB, 0, none⟩ = some (.bool nb) ∧ w'.cell? ⟨rB, 1, none⟩ = some (.slice bo lb cb) ∧ w'.cell? ⟨rB, 2, none⟩ = some (.slice qo lq cq) ∧ w'.cell? ⟨r15, 0, none⟩ = some (.bool n15) ∧ w'.cell? ⟨r15, 1, none⟩ = some (.slice o15 l15 c15) ∧ w'.cell? ⟨r15, 2, none⟩ = some (.slice p15 m15 k15)) := fun w' h => ⟨(HU9.out.1.box.later h HU9.out.1.lt).1, (HU9.out.1.box.later h HU9.out.1.lt).2.1, (HU9.out.1.box.later h HU9.out.1.lt).2.2, (HU9.out.2.1.box.later h HU9.out.2.1.lt).1, (HU9.out.2.1.box.later h HU9.out.2.1.lt).2.1, (HU9.out.2.1.box.later h HU9.out.2.1.lt).2.2, (HU9.out.2.2.box.later h HU9.out.2.2.lt).1, (HU9.out.2.2.box.later h HU9.out.2.2.lt).2.1, (HU9.out.2.2.box.later h HU9.out.2.2.lt).2.2⟩
                   have HY9 : Hid (Below Z7.heap.size Z7 Z9) := bnext HY8.out hbZ
                   clear HY8 u15 f15 hr15 hbZ HU8 HB8 KS8
                   go_upto_region 20 with fail
                   go_cut [17, 18] (fun s17 s18 wx => ∃ r, s17 = .pointer (some ⟨r, 0, none⟩) ∧ s18 = .int .i64 0 ∧ NewVar Z9 wx r (va ^ (-1 : Int)))
                   case first => as_aux_lemma =>
                    obtain ⟨ga0, ga1, ga2⟩ := HU9.out.1.box
                    obtain ⟨gb0, gb1, gb2⟩ := HU9.out.2.1.box
                    obtain ⟨gv0, gv1, gv2⟩ := HU9.out.2.2.box
                    go_wp2_with (go_at_call 51; refine (pow_m1 na ao po la ca lp cp va _ HU9.out.1.rat HZ0.out HSz.out.1 (tab_later HT.out.1 HB9.out)).mono ?_; rintro e y5 ⟨n5, o5, l5, c5, p5, m5, k5, rfl, hs, ho, hp, _, hb5⟩; have HA5 : Hid (RatAt y5 n5 o5 l5 c5 p5 m5 k5 (va ^ (-1 : Int)) ∧ Below Z9.heap.size Z9 y5) := ⟨⟨ho.int hs, hp.row⟩, hb5⟩; clear hs ho hp hb5)
                    go_meet
                    exact ⟨_, rfl, rfl, nv_a HA5.out.1 HA5.out.2⟩
                   case rest => as_aux_lemma =>
                    obtain ⟨r17, rfl, rfl, n17, o17, l17, c17, p17, m17, k17, u17, f17, hr17, hbZ⟩ := hcut
                    obtain ⟨Z10, hZ10⟩ : ∃ Z, Z = wc := ⟨_, rfl⟩
                    rw [← hZ10] at u17 f17 hbZ
                    rw [← hZ10]
                    clear hZ10
                    have HU10 : Hid (RVar Z10 (rA) na ao la ca po lp cp (va) ∧ RVar Z10 (rB) nb bo lb cb qo lq cq (vb) ∧ RVar Z10 (r15) n15 o15 l15 c15 p15 m15 k15 (vb) ∧ RVar Z10 (r17) n17 o17 l17 c17 p17 m17 k17 (va ^ (-1 : Int))) := ⟨(HU9.out.1.later hbZ), (HU9.out.2.1.later hbZ), (HU9.out.2.2.later hbZ), u17⟩
                    have HB10 : Hid (Below w.heap.size w Z10) := bnext HB9.out hbZ
                    have KS10 : Hid (∀ w' : World, Below Z10.heap.size Z10 w' → w'.cell? ⟨rA, 0, none⟩ = some (.bool na) ∧ w'.cell? ⟨rA, 1, none⟩ = some (.slice ao la ca) ∧ w'.cell? ⟨rA, 2, none⟩ = some (.slice po lp cp) ∧ w'.cell? ⟨rB, 0, none⟩ = some (.bool nb) ∧ w'.cell? ⟨rB, 1, none⟩ = some (.slice bo lb cb) ∧ w'.cell? ⟨rB, 2, none⟩ = some (.slice qo lq cq) ∧ w'.cell? ⟨r15, 0, none⟩ = some (.bool n15) ∧ w'.cell? ⟨r15, 1, none⟩ = some (.slice o15 l15 c15) ∧ w'.cell? ⟨r15, 2, none⟩ = some (.slice p15 m15 k15) ∧ w'.cell? ⟨r17, 0, none⟩ = some (.bool n17) ∧ w'.cell? ⟨r17, 1, none⟩ = some (.slice o17 l17 c17) ∧ w'.cell? ⟨r17, 2, none⟩ = some (.slice p17 m17 k17)) := fun w' h => ⟨(HU10.out.1.box.later h HU10.out.1.lt).1, (HU10.out.1.box.later h HU10.out.1.lt).2.1, (HU10.out.1.box.later h HU10.out.1.lt).2.2, (HU10.out.2.1.box.later h HU10.out.2.1.lt).1, (HU10.out.2.1.box.later h HU10.out.2.1.lt).2.1, (HU10.out.2.1.box.later h HU10.out.2.1.lt).2.2, (HU10.out.2.2.1.box.later h HU10.out.2.2.1.lt).1, (HU10.out.2.2.1.box.later h HU10.out.2.2.1.lt).2.1, (HU10.out.2.2.1.box.later h HU10.out.2.2.1.lt).2.2, (HU10.out.2.2.2.box.later h HU10.out.2.2.2.lt).1, (HU10.out.2.2.2.box.later h HU10.out.2.2.2.lt).2.1, (HU10.out.2.2.2.box.later h HU10.out.2.2.2.lt).2.2⟩
                    have HY10 : Hid (Below Z7.heap.size Z7 Z10) := bnext HY9.out hbZ
                    clear HY9 u17 f17 hr17 hbZ HU9 HB9 KS9
                    go_upto_region 21 with fail
                    go_cut [19, 20] (fun s19 s20 wx => ∃ r, s19 = .pointer (some ⟨r, 0, none⟩) ∧ s20 = .int .i64 0 ∧ NewVar Z10 wx r (((1 : Int) : Rat)))
                    case first => as_aux_lemma =>
                     obtain ⟨ga0, ga1, ga2⟩ := HU10.out.1.box
                     obtain ⟨gb0, gb1, gb2⟩ := HU10.out.2.1.box
                     obtain ⟨gv0, gv1, gv2⟩ := HU10.out.2.2.1.box
                     obtain ⟨gt0, gt1, gt2⟩ := HU10.out.2.2.2.box
                     go_wp2_with (go_at_call 20; refine (mul_rat n17 na o17 p17 ao po l17 c17 m17 k17 la ca lp cp (va ^ (-1 : Int)) va _ HU10.out.2.2.2.rat HU10.out.1.rat HSI.out (HSz.out.1.mono (by decide)) (tab_later HT.out.1 HB10.out)).mono ?_; rintro e y5 ⟨n5, o5, l5, c5, p5, m5, k5, rfl, hs, ho, hp, _, hb5⟩; rw [HPV.out] at hs ho hp; have HA5 : Hid (RatAt y5 n5 o5 l5 c5 p5 m5 k5 (((1 : Int) : Rat)) ∧ Below Z10.heap.size Z10 y5) := ⟨⟨ho.int hs, hp.row⟩, hb5⟩; clear hs ho hp hb5)
                     go_meet
                     exact ⟨_, rfl, rfl, nv_a HA5.out.1 HA5.out.2⟩
                    case rest => as_aux_lemma =>
                     obtain ⟨r19, rfl, rfl, n19, o19, l19, c19, p19, m19, k19, u19, f19, hr19, hbZ⟩ := hcut
                     obtain ⟨Z11, hZ11⟩ : ∃ Z, Z = wc := ⟨_, rfl⟩
                     rw [← hZ11] at u19 f19 hbZ
                     rw [← hZ11]
                     clear hZ11
                     have HU11 : Hid (RVar Z11 (rA) na ao la ca po lp cp (va) ∧ RVar Z11 (rB) nb bo lb cb qo lq cq (vb) ∧ RVar Z11 (r15) n15 o15 l15 c15 p15 m15 k15 (vb) ∧ RVar Z11 (r19) n19 o19 l19 c19 p19 m19 k19 (((1 : Int) : Rat))) := ⟨(HU10.out.1.later hbZ), (HU10.out.2.1.later hbZ), (HU10.out.2.2.1.later hbZ), u19⟩
                     have HB11 : Hid (Below w.heap.size w Z11) := bnext HB10.out hbZ
                     have KS11 : Hid (∀ w' : World, Below Z11.heap.size Z11 w' → w'.cell? ⟨rA, 0, none⟩ = some (.bool na) ∧ w'.cell? ⟨rA, 1, none⟩ = some (.slice ao la ca) ∧ w'.cell? ⟨rA, 2, none⟩ = some (.slice po lp cp) ∧ w'.cell? ⟨rB, 0, none⟩ = some (.bool nb) ∧ w'.cell? ⟨rB, 1, none⟩ = some (.slice bo lb cb) ∧ w'.cell? ⟨rB, 2, none⟩ = some (.slice qo lq cq) ∧ w'.cell? ⟨r15, 0, none⟩ = some (.bool n15) ∧ w'.cell? ⟨r15, 1, none⟩ = some (.slice o15 l15 c15) ∧ w'.cell? ⟨r15, 2, none⟩ = some (.slice p15 m15 k15) ∧ w'.cell? ⟨r19, 0, none⟩ = some (.bool n19) ∧ w'.cell? ⟨r19, 1, none⟩ = some (.slice o19 l19 c19) ∧ w'.cell? ⟨r19, 2, none⟩ = some (.slice p19 m19 k19)) := fun w' h => ⟨(HU11.out.1.box.later h HU11.out.1.lt).1, (HU11.out.1.box.later h HU11.out.1.lt).2.1, (HU11.out.1.box.later h HU11.out.1.lt).2.2, (HU11.out.2.1.box.later h HU11.out.2.1.lt).1, (HU11.out.2.1.box.later h HU11.out.2.1.lt).2.1, (HU11.out.2.1.box.later h HU11.out.2.1.lt).2.2, (HU11.out.2.2.1.box.later h HU11.out.2.2.1.lt).1, (HU11.out.2.2.1.box.later h HU11.out.2.2.1.lt).2.1, (HU11.out.2.2.1.box.later h HU11.out.2.2.1.lt).2.2, (HU11.out.2.2.2.box.later h HU11.out.2.2.2.lt).1, (HU11.out.2.2.2.box.later h HU11.out.2.2.2.lt).2.1, (HU11.out.2.2.2.box.later h HU11.out.2.2.2.lt).2.2⟩
                     have HY11 : Hid (Below Z7.heap.size Z7 Z11) := bnext HY10.out hbZ
                     clear HY10 u19 f19 hr19 hbZ HU10 HB10 KS10 HDV HPV HSI
                     go_upto_region 22 with fail
                     go_cut [176] (fun s176 wx => s176 = .bool false ∧ Below Z11.heap.size Z11 wx)
                     case first => as_aux_lemma =>
                      refine wp_region_noPanic ?_
                      refine wp_region_held_drew (S := fun w' => (w'.cell? ⟨rA, 0, none⟩ = some (.bool na) ∧ w'.cell? ⟨rA, 1, none⟩ = some (.slice ao la ca) ∧ w'.cell? ⟨rA, 2, none⟩ = some (.slice po lp cp) ∧ w'.cell? ⟨rB, 0, none⟩ = some (.bool nb) ∧ w'.cell? ⟨rB, 1, none⟩ = some (.slice bo lb cb) ∧ w'.cell? ⟨rB, 2, none⟩ = some (.slice qo lq cq) ∧ w'.cell? ⟨r15, 0, none⟩ = some (.bool n15) ∧ w'.cell? ⟨r15, 1, none⟩ = some (.slice o15 l15 c15) ∧ w'.cell? ⟨r15, 2, none⟩ = some (.slice p15 m15 k15) ∧ w'.cell? ⟨r19, 0, none⟩ = some (.bool n19) ∧ w'.cell? ⟨r19, 1, none⟩ = some (.slice o19 l19 c19) ∧ w'.cell? ⟨r19, 2, none⟩ = some (.slice p19 m19 k19))) (by kernel_rfl) (by (try dsimp only); exact KS11.out _ (Below.refl _ _).drew) (fun hHeld => ?_)
                      refine wpAnyH_take (i := 0) (oi := Oper.mk (some 147) _ _ _ _ _) (v := ?_) rfl (by kernel_rfl) (by kernel_rfl) (by kernel_rfl) (fun _ _ _ h => h) (Or.inl ⟨by rfl, ?_⟩) (by assumption) ?_
                      rotate_left
                      ·
                       (intro w hSw; (try dsimp only at hSw); go_simp <;> (try with_reducible rfl))
                      (try simp only [Act.put, List.setIfInBounds_toArray, List.set_cons_zero, List.set_cons_succ])
                      refine wpAnyH_ready (rs := [1]) (by kernel_rfl) (by simp) ?_
                      refine AllReadyH.cons (o := Oper.mk (some 148) _ _ _ _ _) rfl (fun K hK => ?_) AllReadyH.nil
                      go_simp
                      (go_at_call 26; refine (num2_bel 0 _).mono ?_; rintro e f1 ⟨rfl, hb⟩; skip; have hbF1 : Below Z11.heap.size Z11 f1 := bnext (Below.refl _ _).drew hb; clear hb)
                      (try go_wp2_with fail)
                      clear hHeld
                      refine hK.out _ _ (by (try dsimp only); first | exact KS11.out _ (Below.refl _ _).drew | exact KS11.out _ (by assumption)) (fun hHeld => ?_)
                      clear hK K
                      (try simp only [Act.put, List.setIfInBounds_toArray, List.set_cons_zero, List.set_cons_succ])
                      refine wpAnyH_take (i := 2) (oi := Oper.mk (some 149) _ _ _ _ _) (v := ?_) rfl (by kernel_rfl) (by kernel_rfl) (by kernel_rfl) (fun _ _ _ h => h) (Or.inl ⟨by rfl, ?_⟩) (by assumption) ?_
                      rotate_left
                      ·
                       (intro w hSw; (try dsimp only at hSw); go_simp <;> (try with_reducible rfl))
                      (try simp only [Act.put, List.setIfInBounds_toArray, List.set_cons_zero, List.set_cons_succ])
                      refine wpAnyH_take (i := 3) (oi := Oper.mk (some 150) _ _ _ _ _) (v := ?_) rfl (by kernel_rfl) (by kernel_rfl) (by kernel_rfl) (fun _ _ _ h => h) (Or.inl ⟨by rfl, ?_⟩) (by assumption) ?_
                      rotate_left
                      ·
                       (intro w hSw; (try dsimp only at hSw); go_simp <;> (try with_reducible rfl))
                      (try simp only [Act.put, List.setIfInBounds_toArray, List.set_cons_zero, List.set_cons_succ])
                      refine wpAnyH_take (i := 4) (oi := Oper.mk (some 151) _ _ _ _ _) (v := ?_) rfl (by kernel_rfl) (by kernel_rfl) (by kernel_rfl) (fun _ _ _ h => h) (Or.inl ⟨by rfl, ?_⟩) (by assumption) ?_
                      rotate_left
                      ·
                       (intro w hSw; (try dsimp only at hSw); go_simp <;> (try with_reducible rfl))
                      (try simp only [Act.put, List.setIfInBounds_toArray, List.set_cons_zero, List.set_cons_succ])
                      refine wpAnyH_ready (rs := [5]) (by kernel_rfl) (by simp) ?_
                      refine AllReadyH.cons (o := Oper.mk (some 152) _ _ _ _ _) rfl (fun K hK => ?_) AllReadyH.nil
                      go_simp
                      (go_at_call 26; refine (num2_bel 0 _).mono ?_; rintro e f2 ⟨rfl, hb⟩; skip; have hbF2 : Below Z11.heap.size Z11 f2 := bnext hbF1 hb; clear hb)
                      (try go_wp2_with fail)
                      clear hHeld
                      refine hK.out _ _ (by (try dsimp only); first | exact KS11.out _ (Below.refl _ _).drew | exact KS11.out _ (by assumption)) (fun hHeld => ?_)
                      clear hK K
                      (try simp only [Act.put, List.setIfInBounds_toArray, List.set_cons_zero, List.set_cons_succ])
                      refine wpAnyH_take (i := 6) (oi := Oper.mk (some 153) _ _ _ _ _) (v := ?_) rfl (by kernel_rfl) (by kernel_rfl) (by kernel_rfl) (fun _ _ _ h => h) (Or.inl ⟨by rfl, ?_⟩) (by assumption) ?_
                      rotate_left
                      ·
                       (intro w hSw; (try dsimp only at hSw); go_simp <;> (try with_reducible rfl))
                      (try simp only [Act.put, List.setIfInBounds_toArray, List.set_cons_zero, List.set_cons_succ])
                      refine wpAnyH_take (i := 7) (oi := Oper.mk (some 154) _ _ _ _ _) (v := ?_) rfl (by kernel_rfl) (by kernel_rfl) (by kernel_rfl) (fun _ _ _ h => h) (Or.inl ⟨by rfl, ?_⟩) (by assumption) ?_
                      rotate_left
                      ·
                       (intro w hSw; (try dsimp only at hSw); go_simp <;> (try with_reducible rfl))
                      (try simp only [Act.put, List.setIfInBounds_toArray, List.set_cons_zero, List.set_cons_succ])
                      refine wpAnyH_take (i := 8) (oi := Oper.mk (some 155) _ _ _ _ _) (v := ?_) rfl (by kernel_rfl) (by kernel_rfl) (by kernel_rfl) (fun _ _ _ h => h) (Or.inl ⟨by rfl, ?_⟩) (by assumption) ?_
                      rotate_left
                      ·
                       (intro w hSw; (try dsimp only at hSw); go_simp <;> (try with_reducible rfl))
                      (try simp only [Act.put, List.setIfInBounds_toArray, List.set_cons_zero, List.set_cons_succ])
                      refine wpAnyH_take (i := 9) (oi := Oper.mk (some 156) _ _ _ _ _) (v := ?_) rfl (by kernel_rfl) (by kernel_rfl) (by kernel_rfl) (fun _ _ _ h => h) (Or.inl ⟨by rfl, ?_⟩) (by assumption) ?_
                      rotate_left
                      ·
                       (intro w hSw; (try dsimp only at hSw); go_simp <;> (try with_reducible rfl))
                      (try simp only [Act.put, List.setIfInBounds_toArray, List.set_cons_zero, List.set_cons_succ])
                      refine wpAnyH_ready (rs := [10]) (by kernel_rfl) (by simp) ?_
                      refine AllReadyH.cons (o := Oper.mk (some 157) _ _ _ _ _) rfl (fun K hK => ?_) AllReadyH.nil
                      go_simp
                      (go_at_call 26; refine (num2_bel 0 _).mono ?_; rintro e f3 ⟨rfl, hb⟩; skip; have hbF3 : Below Z11.heap.size Z11 f3 := bnext hbF2 hb; clear hb)
                      (try go_wp2_with fail)
                      clear hHeld
                      refine hK.out _ _ (by (try dsimp only); first | exact KS11.out _ (Below.refl _ _).drew | exact KS11.out _ (by assumption)) (fun hHeld => ?_)
                      clear hK K
                      (try simp only [Act.put, List.setIfInBounds_toArray, List.set_cons_zero, List.set_cons_succ])
                      refine wpAnyH_take (i := 11) (oi := Oper.mk (some 158) _ _ _ _ _) (v := ?_) rfl (by kernel_rfl) (by kernel_rfl) (by kernel_rfl) (fun _ _ _ h => h) (Or.inl ⟨by rfl, ?_⟩) (by assumption) ?_
                      rotate_left
                      ·
                       (intro w hSw; (try dsimp only at hSw); go_simp <;> (try with_reducible rfl))
                      (try simp only [Act.put, List.setIfInBounds_toArray, List.set_cons_zero, List.set_cons_succ])
                      refine wpAnyH_take (i := 12) (oi := Oper.mk (some 159) _ _ _ _ _) (v := ?_) rfl (by kernel_rfl) (by kernel_rfl) (by kernel_rfl) (fun _ _ _ h => h) (Or.inl ⟨by rfl, ?_⟩) (by assumption) ?_
                      rotate_left
                      ·
                       (intro w hSw; (try dsimp only at hSw); go_simp <;> (try with_reducible rfl))
                      (try simp only [Act.put, List.setIfInBounds_toArray, List.set_cons_zero, List.set_cons_succ])
                      refine wpAnyH_take (i := 13) (oi := Oper.mk (some 160) _ _ _ _ _) (v := ?_) rfl (by kernel_rfl) (by kernel_rfl) (by kernel_rfl) (fun _ _ _ h => h) (Or.inl ⟨by rfl, ?_⟩) (by assumption) ?_
                      rotate_left
                      ·
                       (intro w hSw; (try dsimp only at hSw); go_simp <;> (try with_reducible rfl))
                      (try simp only [Act.put, List.setIfInBounds_toArray, List.set_cons_zero, List.set_cons_succ])
                      refine wpAnyH_take (i := 14) (oi := Oper.mk (some 161) _ _ _ _ _) (v := ?_) rfl (by kernel_rfl) (by kernel_rfl) (by kernel_rfl) (fun _ _ _ h => h) (Or.inl ⟨by rfl, ?_⟩) (by assumption) ?_
                      rotate_left
                      ·
                       (intro w hSw; (try dsimp only at hSw); go_simp <;> (try with_reducible rfl))
                      (try simp only [Act.put, List.setIfInBounds_toArray, List.set_cons_zero, List.set_cons_succ])
                      refine wpAnyH_ready (rs := [15]) (by kernel_rfl) (by simp) ?_
                      refine AllReadyH.cons (o := Oper.mk (some 162) _ _ _ _ _) rfl (fun K hK => ?_) AllReadyH.nil
                      go_simp
                      (go_at_call 26; refine (num2_bel 0 _).mono ?_; rintro e f4 ⟨rfl, hb⟩; skip; have hbF4 : Below Z11.heap.size Z11 f4 := bnext hbF3 hb; clear hb)
                      (try go_wp2_with fail)
                      clear hHeld
                      refine hK.out _ _ (by (try dsimp only); first | exact KS11.out _ (Below.refl _ _).drew | exact KS11.out _ (by assumption)) (fun hHeld => ?_)
                      clear hK K
                      (try simp only [Act.put, List.setIfInBounds_toArray, List.set_cons_zero, List.set_cons_succ])
                      refine wpAnyH_take (i := 16) (oi := Oper.mk (some 163) _ _ _ _ _) (v := ?_) rfl (by kernel_rfl) (by kernel_rfl) (by kernel_rfl) (fun _ _ _ h => h) (Or.inl ⟨by rfl, ?_⟩) (by assumption) ?_
                      rotate_left
                      ·
                       (intro w hSw; (try dsimp only at hSw); go_simp <;> (try with_reducible rfl))
                      (try simp only [Act.put, List.setIfInBounds_toArray, List.set_cons_zero, List.set_cons_succ])
                      refine wpAnyH_take (i := 17) (oi := Oper.mk (some 164) _ _ _ _ _) (v := ?_) rfl (by kernel_rfl) (by kernel_rfl) (by kernel_rfl) (fun _ _ _ h => h) (Or.inl ⟨by rfl, ?_⟩) (by assumption) ?_
                      rotate_left
                      ·
                       (intro w hSw; (try dsimp only at hSw); go_simp <;> (try with_reducible rfl))
                      (try simp only [Act.put, List.setIfInBounds_toArray, List.set_cons_zero, List.set_cons_succ])
                      refine wpAnyH_take (i := 18) (oi := Oper.mk (some 165) _ _ _ _ _) (v := ?_) rfl (by kernel_rfl) (by kernel_rfl) (by kernel_rfl) (fun _ _ _ h => h) (Or.inl ⟨by rfl, ?_⟩) (by assumption) ?_
                      rotate_left
                      ·
                       (intro w hSw; (try dsimp only at hSw); go_simp <;> (try with_reducible rfl))
                      (try simp only [Act.put, List.setIfInBounds_toArray, List.set_cons_zero, List.set_cons_succ])
                      refine wpAnyH_take (i := 19) (oi := Oper.mk (some 166) _ _ _ _ _) (v := ?_) rfl (by kernel_rfl) (by kernel_rfl) (by kernel_rfl) (fun _ _ _ h => h) (Or.inl ⟨by rfl, ?_⟩) (by assumption) ?_
                      rotate_left
                      ·
                       (intro w hSw; (try dsimp only at hSw); go_simp <;> (try with_reducible rfl))
                      (try simp only [Act.put, List.setIfInBounds_toArray, List.set_cons_zero, List.set_cons_succ])
                      refine wpAnyH_take (i := 20) (oi := Oper.mk (some 167) _ _ _ _ _) (v := ?_) rfl (by kernel_rfl) (by kernel_rfl) (by kernel_rfl) (fun _ _ _ h => h) (Or.inl ⟨by rfl, ?_⟩) (by assumption) ?_
                      rotate_left
                      ·
                       (intro w hSw; (try dsimp only at hSw); go_simp <;> (try with_reducible rfl))
                      (try simp only [Act.put, List.setIfInBounds_toArray, List.set_cons_zero, List.set_cons_succ])
                      refine wpAnyH_ready (rs := [21]) (by kernel_rfl) (by simp) ?_
                      refine AllReadyH.cons (o := Oper.mk (some 168) _ _ _ _ _) rfl (fun K hK => ?_) AllReadyH.nil
                      go_simp
                      (go_at_call 22; refine (eqrat_same n15 nb o15 p15 bo qo l15 c15 m15 k15 lb cb lq cq vb _ (HU11.out.2.2.1.rat.later hbF4) (HU11.out.2.1.rat.later hbF4) (by have := (HU11.out.2.2.1.rat.len HSz.out.2.1).1; omega) (by have := (HU11.out.2.2.1.rat.len HSz.out.2.1).2; omega)).mono ?_; rintro e f5 ⟨rfl, hb⟩; skip; have hbF5 : Below Z11.heap.size Z11 f5 := bnext hbF4 hb; clear hb)
                      (try go_wp2_with fail)
                      clear hHeld
                      refine hK.out _ _ (by (try dsimp only); first | exact KS11.out _ (Below.refl _ _).drew | exact KS11.out _ (by assumption)) (fun hHeld => ?_)
                      clear hK K
                      (try simp only [Act.put, List.setIfInBounds_toArray, List.set_cons_zero, List.set_cons_succ])
                      refine wpAnyH_take (i := 22) (oi := Oper.mk (some 169) _ _ _ _ _) (v := ?_) rfl (by kernel_rfl) (by kernel_rfl) (by kernel_rfl) (fun _ _ _ h => h) (Or.inl ⟨by rfl, ?_⟩) (by assumption) ?_
                      rotate_left
                      ·
                       (intro w hSw; (try dsimp only at hSw); go_simp <;> (try with_reducible rfl))
                      (try simp only [Act.put, List.setIfInBounds_toArray, List.set_cons_zero, List.set_cons_succ])
                      refine wpAnyH_take (i := 23) (oi := Oper.mk (some 170) _ _ _ _ _) (v := ?_) rfl (by kernel_rfl) (by kernel_rfl) (by kernel_rfl) (fun _ _ _ h => h) (Or.inl ⟨by rfl, ?_⟩) (by assumption) ?_
                      rotate_left
                      ·
                       (intro w hSw; (try dsimp only at hSw); go_simp <;> (try with_reducible rfl))
                      (try simp only [Act.put, List.setIfInBounds_toArray, List.set_cons_zero, List.set_cons_succ])
                      refine wpAnyH_take (i := 24) (oi := Oper.mk (some 171) _ _ _ _ _) (v := ?_) rfl (by kernel_rfl) (by kernel_rfl) (by kernel_rfl) (fun _ _ _ h => h) (Or.inl ⟨by rfl, ?_⟩) (by assumption) ?_
                      rotate_left
                      ·
                       (intro w hSw; (try dsimp only at hSw); go_simp <;> (try with_reducible rfl))
                      (try simp only [Act.put, List.setIfInBounds_toArray, List.set_cons_zero, List.set_cons_succ])
                      refine wpAnyH_take (i := 25) (oi := Oper.mk (some 172) _ _ _ _ _) (v := ?_) rfl (by kernel_rfl) (by kernel_rfl) (by kernel_rfl) (fun _ _ _ h => h) (Or.inl ⟨by rfl, ?_⟩) (by assumption) ?_
                      rotate_left
                      ·
                       (intro w hSw; (try dsimp only at hSw); go_simp <;> (try with_reducible rfl))
                      (try simp only [Act.put, List.setIfInBounds_toArray, List.set_cons_zero, List.set_cons_succ])
                      refine wpAnyH_ready (rs := [26]) (by kernel_rfl) (by simp) ?_
                      refine AllReadyH.cons (o := Oper.mk (some 173) _ _ _ _ _) rfl (fun K hK => ?_) AllReadyH.nil
                      go_simp
                      (go_at_call 58; refine (qint_any 1 _ (by decide) (by decide)).mono ?_; rintro e f6 ⟨n6, o6, l6, c6, p6, m6, k6, rfl, hz, hb⟩; have H6 : Hid (RatAt f6 n6 o6 l6 c6 p6 m6 k6 ((1 : Int) : Rat)) := hz; clear hz; have hbF6 : Below Z11.heap.size Z11 f6 := bnext hbF5 hb; clear hb)
                      (try go_wp2_with fail)
                      clear hHeld
                      refine hK.out _ _ (by (try dsimp only); first | exact KS11.out _ (Below.refl _ _).drew | exact KS11.out _ (by assumption)) (fun hHeld => ?_)
                      clear hK K
                      (try simp only [Act.put, List.setIfInBounds_toArray, List.set_cons_zero, List.set_cons_succ])
                      refine wpAnyH_ready (rs := [27]) (by kernel_rfl) (by simp) ?_
                      refine AllReadyH.cons (o := Oper.mk (some 174) _ _ _ _ _) rfl (fun K hK => ?_) AllReadyH.nil
                      go_simp
                      (go_at_call 22; refine (eqrat_same n19 n6 o19 p19 o6 p6 l19 c19 m19 k19 l6 c6 m6 k6 ((1 : Int) : Rat) _ (HU11.out.2.2.2.rat.later hbF6) (H6.out.later (Below.refl _ _)) (by have := (HU11.out.2.2.2.rat.len (show Sz ((1 : Int) : Rat) 1 by unfold Sz; decide)).1; omega) (by have := (HU11.out.2.2.2.rat.len (show Sz ((1 : Int) : Rat) 1 by unfold Sz; decide)).2; omega)).mono ?_; rintro e f7 ⟨rfl, hb⟩; skip; have hbF7 : Below Z11.heap.size Z11 f7 := bnext hbF6 hb; clear hb)
                      (try go_wp2_with fail)
                      clear hHeld
                      refine hK.out _ _ (by (try dsimp only); first | exact KS11.out _ (Below.refl _ _).drew | exact KS11.out _ (by assumption)) (fun hHeld => ?_)
                      clear hK K
                      (try simp only [Act.put, List.setIfInBounds_toArray, List.set_cons_zero, List.set_cons_succ])
                      refine wpAnyH_take (i := 28) (oi := Oper.mk (some 175) _ _ _ _ _) (v := ?_) rfl (by kernel_rfl) (by kernel_rfl) (by kernel_rfl) (fun _ _ _ h => h) (Or.inl ⟨by rfl, ?_⟩) (by assumption) ?_
                      rotate_left
                      ·
                       (intro w hSw; (try dsimp only at hSw); go_simp <;> (try with_reducible rfl))
                      (try simp only [Act.put, List.setIfInBounds_toArray, List.set_cons_zero, List.set_cons_succ])
                      refine wpAnyH_take (i := 29) (oi := Oper.mk (some 176) _ _ _ _ _) (v := ?_) rfl (by kernel_rfl) (by kernel_rfl) (by kernel_rfl) (fun _ _ _ h => h) (Or.inl ⟨by rfl, ?_⟩) (by assumption) ?_
                      rotate_left
                      ·
                       (intro w hSw; (try dsimp only at hSw); go_simp <;> (try with_reducible rfl))
                      (try simp only [Act.put, List.setIfInBounds_toArray, List.set_cons_zero, List.set_cons_succ])
                      refine wpAnyH_done (by kernel_rfl) ?_ _
                      refine NoPanic.normal ?_
                      go_wp2
                      go_meet
                      exact ⟨rfl, hbF7⟩
                     case rest => as_aux_lemma =>
                      obtain ⟨rfl, hbZ⟩ := hcut
                      go_wp2
                      go_meet
                      exact bnext HY11.out hbZ
               case rest => as_aux_lemma =>
                have hbZ : Below Z7.heap.size Z7 wc := hcut
                clear hcut
                obtain ⟨Z12, hZ12⟩ : ∃ Z, Z = wc := ⟨_, rfl⟩
                rw [← hZ12] at hbZ
                rw [← hZ12]
                clear hZ12
                have HU12 : Hid (RVar Z12 (rA) na ao la ca po lp cp (va) ∧ RVar Z12 (rB) nb bo lb cb qo lq cq (vb)) := ⟨(HU7.out.1.later hbZ), (HU7.out.2.later hbZ)⟩
                have HB12 : Hid (Below w.heap.size w Z12) := bnext HB7.out hbZ
                have KS12 : Hid (∀ w' : World, Below Z12.heap.size Z12 w' → w'.cell? ⟨rA, 0, none⟩ = some (.bool na) ∧ w'.cell? ⟨rA, 1, none⟩ = some (.slice ao la ca) ∧ w'.cell? ⟨rA, 2, none⟩ = some (.slice po lp cp) ∧ w'.cell? ⟨rB, 0, none⟩ = some (.bool nb) ∧ w'.cell? ⟨rB, 1, none⟩ = some (.slice bo lb cb) ∧ w'.cell? ⟨rB, 2, none⟩ = some (.slice qo lq cq)) := fun w' h => ⟨(HU12.out.1.box.later h HU12.out.1.lt).1, (HU12.out.1.box.later h HU12.out.1.lt).2.1, (HU12.out.1.box.later h HU12.out.1.lt).2.2, (HU12.out.2.box.later h HU12.out.2.lt).1, (HU12.out.2.box.later h HU12.out.2.lt).2.1, (HU12.out.2.box.later h HU12.out.2.lt).2.2⟩
                clear hbZ HU7 HB7 KS7
                obtain ⟨vf, hvf⟩ : ∃ q : Rat, ((va.num / (va.den : Int) : Int) : Rat) = q := ⟨_, rfl⟩
                obtain ⟨vo, hvo⟩ : ∃ q : Rat, vf + ((1 : Int) : Rat) = q := ⟨_, rfl⟩
                have HFl : Hid (cmpQ vf va ≤ 0 ∧ cmpQ va vo = -1 ∧ Sz vf 1000 ∧ Sz vo 1000 ∧ ((va.num / (va.den : Int) : Int) : Rat) = vf ∧ vf + ((1 : Int) : Rat) = vo) := by
                  have h1 := floor_cmp va
                  have h2 := floor_len va
                  have h3 := HSz.out.1.1
                  have s1 : Sz vf 10 := by rw [← hvf]; exact int_sz _ (by omega) (by omega)
                  have s2 : Sz ((1 : Int) : Rat) 1 := by unfold Sz; decide
                  rw [hvf] at h1
                  refine ⟨?_, cmpQ_lt.2 (by rw [← hvo]; exact h1.2), s1.mono (by decide), by rw [← hvo]; exact (s1.add s2).mono (by decide), hvf, hvo⟩
                  rcases cmpI_vals (vf.num * (va.den : Int)) (va.num * (vf.den : Int)) with h | h | h
                  ·
                   show cmpI _ _ ≤ 0; omega
                  ·
                   show cmpI _ _ ≤ 0; omega
                  ·
                   exact absurd (cmpQ_gt.1 h) (Rat.not_lt.2 h1.1)
                clear hvf hvo
                go_upto_region 24 with fail
                go_cut [21] (fun s21 wx => ∃ r, s21 = .pointer (some ⟨r, 0, none⟩) ∧ NewVar Z12 wx r vf)
                case first => as_aux_lemma =>
                 obtain ⟨ga0, ga1, ga2⟩ := HU12.out.1.box
                 obtain ⟨gb0, gb1, gb2⟩ := HU12.out.2.box
                 go_wp2_with (first
                   | (go_at_call 33; refine (rfloor_any na ao po la ca lp cp va _ HU12.out.1.rat (by omega) (by omega) (tab_later HT.out.1 HB12.out)).mono ?_; rintro e y4 ⟨n4, o4, l4, c4, rfl, hs, ho, hb4⟩; have HA4 : Hid (IntAt y4 n4 o4 l4 c4 (va.num / (va.den : Int)) ∧ Below Z12.heap.size Z12 y4) := ⟨ho.int hs, hb4⟩; have hl4 : l4 ≤ 100 := (by rw [ho.row.hlen]; have q1 := floor_len va; have q2 := HSz.out.1.1; omega); clear hs ho hb4)
                   | (go_at_call 41; refine (rfrom2_any n4 o4 l4 c4 (va.num / (va.den : Int)) _ HA4.out.1 (by omega)).mono ?_; rw [HFl.out.2.2.2.2.1]; rintro e y5 ⟨n5, o5, l5, c5, p5, m5, k5, rfl, hs, ho, hp, _, hb5⟩; have HA5 : Hid (RatAt y5 n5 o5 l5 c5 p5 m5 k5 vf ∧ Below Z12.heap.size Z12 y5) := ⟨⟨ho.int hs, hp.row⟩, bnext HA4.out.2 hb5⟩; clear hs ho hp hb5))
                 go_meet
                 exact ⟨_, rfl, nv_a HA5.out.1 HA5.out.2⟩
                case rest => as_aux_lemma =>
                 obtain ⟨r21, rfl, n21, o21, l21, c21, p21, m21, k21, u21, f21, hr21, hbZ⟩ := hcut
                 obtain ⟨Z13, hZ13⟩ : ∃ Z, Z = wc := ⟨_, rfl⟩
                 rw [← hZ13] at u21 f21 hbZ
                 rw [← hZ13]
                 clear hZ13
                 have HU13 : Hid (RVar Z13 (rA) na ao la ca po lp cp (va) ∧ RVar Z13 (rB) nb bo lb cb qo lq cq (vb) ∧ RVar Z13 (r21) n21 o21 l21 c21 p21 m21 k21 (vf)) := ⟨(HU12.out.1.later hbZ), (HU12.out.2.later hbZ), u21⟩
                 have HB13 : Hid (Below w.heap.size w Z13) := bnext HB12.out hbZ
                 have KS13 : Hid (∀ w' : World, Below Z13.heap.size Z13 w' → w'.cell? ⟨rA, 0, none⟩ = some (.bool na) ∧ w'.cell? ⟨rA, 1, none⟩ = some (.slice ao la ca) ∧ w'.cell? ⟨rA, 2, none⟩ = some (.slice po lp cp) ∧ w'.cell? ⟨rB, 0, none⟩ = some (.bool nb) ∧ w'.cell? ⟨rB, 1, none⟩ = some (.slice bo lb cb) ∧ w'.cell? ⟨rB, 2, none⟩ = some (.slice qo lq cq) ∧ w'.cell? ⟨r21, 0, none⟩ = some (.bool n21) ∧ w'.cell? ⟨r21, 1, none⟩ = some (.slice o21 l21 c21) ∧ w'.cell? ⟨r21, 2, none⟩ = some (.slice p21 m21 k21)) := fun w' h => ⟨(HU13.out.1.box.later h HU13.out.1.lt).1, (HU13.out.1.box.later h HU13.out.1.lt).2.1, (HU13.out.1.box.later h HU13.out.1.lt).2.2, (HU13.out.2.1.box.later h HU13.out.2.1.lt).1, (HU13.out.2.1.box.later h HU13.out.2.1.lt).2.1, (HU13.out.2.1.box.later h HU13.out.2.1.lt).2.2, (HU13.out.2.2.box.later h HU13.out.2.2.lt).1, (HU13.out.2.2.box.later h HU13.out.2.2.lt).2.1, (HU13.out.2.2.box.later h HU13.out.2.2.lt).2.2⟩
                 clear u21 f21 hr21 hbZ HU12 HB12 KS12
                 go_upto_region 25 with fail
                 go_cut [22] (fun s22 wx => ∃ r, s22 = .pointer (some ⟨r, 0, none⟩) ∧ NewVar Z13 wx r vo)
                 case first => as_aux_lemma =>
                  refine wp_region_noPanic ?_
                  refine wp_region_held_drew (S := fun w' => (w'.cell? ⟨rA, 0, none⟩ = some (.bool na) ∧ w'.cell? ⟨rA, 1, none⟩ = some (.slice ao la ca) ∧ w'.cell? ⟨rA, 2, none⟩ = some (.slice po lp cp) ∧ w'.cell? ⟨rB, 0, none⟩ = some (.bool nb) ∧ w'.cell? ⟨rB, 1, none⟩ = some (.slice bo lb cb) ∧ w'.cell? ⟨rB, 2, none⟩ = some (.slice qo lq cq) ∧ w'.cell? ⟨r21, 0, none⟩ = some (.bool n21) ∧ w'.cell? ⟨r21, 1, none⟩ = some (.slice o21 l21 c21) ∧ w'.cell? ⟨r21, 2, none⟩ = some (.slice p21 m21 k21))) (by kernel_rfl) (by (try dsimp only); exact KS13.out _ (Below.refl _ _).drew) (fun hHeld => ?_)
                  refine wpAnyH_take (i := 0) (oi := Oper.mk (some 181) _ _ _ _ _) (v := ?_) rfl (by kernel_rfl) (by kernel_rfl) (by kernel_rfl) (fun _ _ _ h => h) (Or.inl ⟨by rfl, ?_⟩) (by assumption) ?_
                  rotate_left
                  ·
                   (intro w hSw; (try dsimp only at hSw); go_simp <;> (try with_reducible rfl))
                  (try simp only [Act.put, List.setIfInBounds_toArray, List.set_cons_zero, List.set_cons_succ])
                  have hzU : Z13.heap.size ≤ Z13.drew.heap.size := Nat.le_refl _
                  refine wpAnyH_ready (rs := [1, 6]) (by kernel_rfl) (by simp) ?_
                  refine AllReadyH.cons (o := Oper.mk (some 182) _ _ _ _ _) rfl (fun K hK => ?_) ?_
                  ·
                   as_aux_lemma =>
                   go_simp
                   (go_at_call 58; refine (qint_any 1 _ (by decide) (by decide)).mono ?_; rintro e f1 ⟨nz, oz, lz, cz, pz, mz, kz, rfl, hz, hb⟩; have H1 : Hid (RatAt f1 nz oz lz cz pz mz kz ((1 : Int) : Rat)) := hz; clear hz; have hbF1 : Below Z13.heap.size Z13 f1 := bnext (Below.refl _ _).drew hb; clear hb)
                   (try go_wp2_with fail)
                   clear hHeld
                   refine hK.out _ _ (by (try dsimp only); with_reducible (first | exact KS13.out _ (Below.refl _ _).drew | exact KS13.out _ (by assumption) | (refine KS13.out _ ?_; (repeat (first | refine below_alloc ?_ (Nat.le_refl _) | refine Below.drew ?_ | refine below_set ?_ (by omega))); (first | exact hbF2 | exact hbF1 | exact Below.refl _ _)))) (fun hHeld => ?_)
                   clear hK K
                   (try simp only [Act.put, List.setIfInBounds_toArray, List.set_cons_zero, List.set_cons_succ])
                   have hzF1 := hbF1.size
                   refine wpAnyH_ready (rs := [2, 6]) (by kernel_rfl) (by simp) ?_
                   refine AllReadyH.cons (o := Oper.mk (some 183) _ _ _ _ _) rfl (fun K hK => ?_) ?_
                   ·
                    as_aux_lemma =>
                    go_simp
                    (go_at_call 17; refine (add_rat n21 nz o21 p21 oz pz l21 c21 m21 k21 lz cz mz kz vf ((1 : Int) : Rat) _ (HU13.out.2.2.rat.later hbF1) H1.out HFl.out.2.2.1 (by unfold Sz; decide) (tab_later HT.out.1 (bnext HB13.out hbF1))).mono ?_; rintro e f2 ⟨n5, o5, l5, c5, p5, m5, k5, rfl, hs, ho, hp, _, hb⟩; rw [HFl.out.2.2.2.2.2] at hs ho hp; have HO : Hid (RatAt f2 n5 o5 l5 c5 p5 m5 k5 vo) := ⟨ho.int hs, hp.row⟩; clear hs ho hp; have hbF2 : Below Z13.heap.size Z13 f2 := bnext hbF1 hb; clear hb)
                    (try go_wp2_with fail)
                    clear hHeld
                    refine hK.out _ _ (by (try dsimp only); with_reducible (first | exact KS13.out _ (Below.refl _ _).drew | exact KS13.out _ (by assumption) | (refine KS13.out _ ?_; (repeat (first | refine below_alloc ?_ (Nat.le_refl _) | refine Below.drew ?_ | refine below_set ?_ (by omega))); (first | exact hbF2 | exact hbF1 | exact Below.refl _ _)))) (fun hHeld => ?_)
                    clear hK K
                    (try simp only [Act.put, List.setIfInBounds_toArray, List.set_cons_zero, List.set_cons_succ])
                    refine wpAnyH_take (i := 3) (oi := Oper.mk (some 180) _ _ _ _ _) (v := ?_) rfl (by kernel_rfl) (by kernel_rfl) (by kernel_rfl) (fun _ _ _ h => h) (Or.inl ⟨by rfl, ?_⟩) (by assumption) ?_
                    rotate_left
                    ·
                     (intro w hSw; (try dsimp only at hSw); go_simp <;> (try with_reducible rfl))
                    (try simp only [Act.put, List.setIfInBounds_toArray, List.set_cons_zero, List.set_cons_succ])
                    refine wpAnyH_take (i := 4) (oi := Oper.mk (some 184) _ _ _ _ _) (v := ?_) rfl (by kernel_rfl) (by kernel_rfl) (by kernel_rfl) (fun _ _ _ h => h) (Or.inl ⟨by rfl, ?_⟩) (by assumption) ?_
                    rotate_left
                    ·
                     (intro w hSw; (try dsimp only at hSw); go_simp <;> (try with_reducible rfl))
                    (try simp only [Act.put, List.setIfInBounds_toArray, List.set_cons_zero, List.set_cons_succ])
                    refine wpAnyH_take (i := 5) (oi := Oper.mk (some 185) _ _ _ _ _) (v := ?_) rfl (by kernel_rfl) (by kernel_rfl) (by kernel_rfl) (fun _ _ _ h => h) (Or.inl ⟨by rfl, ?_⟩) (by assumption) ?_
                    rotate_left
                    ·
                     (intro w hSw; (try dsimp only at hSw); go_simp <;> (try with_reducible rfl))
                    (try simp only [Act.put, List.setIfInBounds_toArray, List.set_cons_zero, List.set_cons_succ])
                    refine wpAnyH_ready (rs := [6]) (by kernel_rfl) (by simp) ?_
                    refine AllReadyH.cons (o := Oper.mk (some 22) _ _ _ _ _) rfl (fun K hK => ?_) AllReadyH.nil
                    go_simp
                    clear hHeld
                    refine hK.out _ _ (by (try dsimp only); with_reducible (first | exact KS13.out _ (Below.refl _ _).drew | exact KS13.out _ (by assumption) | (refine KS13.out _ ?_; (repeat (first | refine below_alloc ?_ (Nat.le_refl _) | refine Below.drew ?_ | refine below_set ?_ (by omega))); (first | exact hbF2 | exact hbF1 | exact Below.refl _ _)))) (fun hHeld => ?_)
                    clear hK K
                    (try simp only [Act.put, List.setIfInBounds_toArray, List.set_cons_zero, List.set_cons_succ])
                    refine wpAnyH_ready (rs := [7]) (by kernel_rfl) (by simp) ?_
                    refine AllReadyH.cons (o := Oper.mk none _ _ _ _ _) rfl (fun K hK => ?_) AllReadyH.nil
                    go_simp
                    clear hHeld
                    refine hK.out _ _ (by (try dsimp only); with_reducible (first | exact KS13.out _ (Below.refl _ _).drew | exact KS13.out _ (by assumption) | (refine KS13.out _ ?_; (repeat (first | refine below_alloc ?_ (Nat.le_refl _) | refine Below.drew ?_ | refine below_set ?_ (by omega))); (first | exact hbF2 | exact hbF1 | exact Below.refl _ _)))) (fun hHeld => ?_)
                    clear hK K
                    (try simp only [Act.put, List.setIfInBounds_toArray, List.set_cons_zero, List.set_cons_succ])
                    refine wpAnyH_take (i := 8) (oi := Oper.mk (some 23) _ _ _ _ _) (v := ?_) rfl (by kernel_rfl) (by kernel_rfl) (by kernel_rfl) (fun _ _ _ h => h) (Or.inl ⟨by rfl, ?_⟩) (by assumption) ?_
                    rotate_left
                    ·
                     (intro w hSw; (try dsimp only at hSw); go_simp <;> (try with_reducible rfl))
                    (try simp only [Act.put, List.setIfInBounds_toArray, List.set_cons_zero, List.set_cons_succ])
                    refine wpAnyH_done (by kernel_rfl) ?_ _
                    refine NoPanic.normal ?_
                    go_wp2
                    go_meet
                    refine ⟨_, rfl, ?_⟩
                    exact nv_d HO hbF2
                   refine AllReadyH.cons (o := Oper.mk (some 22) _ _ _ _ _) rfl (fun K hK => ?_) ?_
                   ·
                    as_aux_lemma =>
                    go_simp
                    clear hHeld
                    refine hK.out _ _ (by (try dsimp only); with_reducible (first | exact KS13.out _ (Below.refl _ _).drew | exact KS13.out _ (by assumption) | (refine KS13.out _ ?_; (repeat (first | refine below_alloc ?_ (Nat.le_refl _) | refine Below.drew ?_ | refine below_set ?_ (by omega))); (first | exact hbF2 | exact hbF1 | exact Below.refl _ _)))) (fun hHeld => ?_)
                    clear hK K
                    (try simp only [Act.put, List.setIfInBounds_toArray, List.set_cons_zero, List.set_cons_succ])
                    refine wpAnyH_ready (rs := [2]) (by kernel_rfl) (by simp) ?_
                    refine AllReadyH.cons (o := Oper.mk (some 183) _ _ _ _ _) rfl (fun K hK => ?_) AllReadyH.nil
                    go_simp
                    (go_at_call 17; refine (add_rat n21 nz o21 p21 oz pz l21 c21 m21 k21 lz cz mz kz vf ((1 : Int) : Rat) _ (HU13.out.2.2.rat.later (below_alloc hbF1 (Nat.le_refl _))) (H1.out.later ((Below.refl _ _).alloc (Nat.le_refl _) _)) HFl.out.2.2.1 (by unfold Sz; decide) (tab_later HT.out.1 (bnext HB13.out (below_alloc hbF1 (Nat.le_refl _))))).mono ?_; rintro e f2 ⟨n5, o5, l5, c5, p5, m5, k5, rfl, hs, ho, hp, _, hb⟩; rw [HFl.out.2.2.2.2.2] at hs ho hp; have HO : Hid (RatAt f2 n5 o5 l5 c5 p5 m5 k5 vo) := ⟨ho.int hs, hp.row⟩; clear hs ho hp; obtain ⟨a5, a2, a3, a4⟩ := Fresh3.next (Fresh3.new f1) hb; have hltA := hzF1; have hbF2 : Below Z13.heap.size Z13 f2 := bnext (below_alloc hbF1 (Nat.le_refl _)) hb; clear hb)
                    (try go_wp2_with fail)
                    clear hHeld
                    refine hK.out _ _ (by (try dsimp only); with_reducible (first | exact KS13.out _ (Below.refl _ _).drew | exact KS13.out _ (by assumption) | (refine KS13.out _ ?_; (repeat (first | refine below_alloc ?_ (Nat.le_refl _) | refine Below.drew ?_ | refine below_set ?_ (by omega))); (first | exact hbF2 | exact hbF1 | exact Below.refl _ _)))) (fun hHeld => ?_)
                    clear hK K
                    (try simp only [Act.put, List.setIfInBounds_toArray, List.set_cons_zero, List.set_cons_succ])
                    refine wpAnyH_take (i := 3) (oi := Oper.mk (some 180) _ _ _ _ _) (v := ?_) rfl (by kernel_rfl) (by kernel_rfl) (by kernel_rfl) (fun _ _ _ h => h) (Or.inl ⟨by rfl, ?_⟩) (by assumption) ?_
                    rotate_left
                    ·
                     (intro w hSw; (try dsimp only at hSw); go_simp <;> (try with_reducible rfl))
                    (try simp only [Act.put, List.setIfInBounds_toArray, List.set_cons_zero, List.set_cons_succ])
                    refine wpAnyH_take (i := 4) (oi := Oper.mk (some 184) _ _ _ _ _) (v := ?_) rfl (by kernel_rfl) (by kernel_rfl) (by kernel_rfl) (fun _ _ _ h => h) (Or.inl ⟨by rfl, ?_⟩) (by assumption) ?_
                    rotate_left
                    ·
                     (intro w hSw; (try dsimp only at hSw); go_simp <;> (try with_reducible rfl))
                    (try simp only [Act.put, List.setIfInBounds_toArray, List.set_cons_zero, List.set_cons_succ])
                    refine wpAnyH_take (i := 5) (oi := Oper.mk (some 185) _ _ _ _ _) (v := ?_) rfl (by kernel_rfl) (by kernel_rfl) (by kernel_rfl) (fun _ _ _ h => h) (Or.inl ⟨by rfl, ?_⟩) (by assumption) ?_
                    rotate_left
                    ·
                     (intro w hSw; (try dsimp only at hSw); go_simp <;> (try with_reducible rfl))
                    (try simp only [Act.put, List.setIfInBounds_toArray, List.set_cons_zero, List.set_cons_succ])
                    refine wpAnyH_ready (rs := [7]) (by kernel_rfl) (by simp) ?_
                    refine AllReadyH.cons (o := Oper.mk none _ _ _ _ _) rfl (fun K hK => ?_) AllReadyH.nil
                    go_simp
                    clear hHeld
                    refine hK.out _ _ (by (try dsimp only); with_reducible (first | exact KS13.out _ (Below.refl _ _).drew | exact KS13.out _ (by assumption) | (refine KS13.out _ ?_; (repeat (first | refine below_alloc ?_ (Nat.le_refl _) | refine Below.drew ?_ | refine below_set ?_ (by omega))); (first | exact hbF2 | exact hbF1 | exact Below.refl _ _)))) (fun hHeld => ?_)
                    clear hK K
                    (try simp only [Act.put, List.setIfInBounds_toArray, List.set_cons_zero, List.set_cons_succ])
                    refine wpAnyH_take (i := 8) (oi := Oper.mk (some 23) _ _ _ _ _) (v := ?_) rfl (by kernel_rfl) (by kernel_rfl) (by kernel_rfl) (fun _ _ _ h => h) (Or.inl ⟨by rfl, ?_⟩) (by assumption) ?_
                    rotate_left
                    ·
                     (intro w hSw; (try dsimp only at hSw); go_simp <;> (try with_reducible rfl))
                    (try simp only [Act.put, List.setIfInBounds_toArray, List.set_cons_zero, List.set_cons_succ])
                    refine wpAnyH_done (by kernel_rfl) ?_ _
                    refine NoPanic.normal ?_
                    go_wp2
                    go_meet
                    refine ⟨_, rfl, ?_⟩
                    exact nv_c HO hbF2 a5 a2 a3 a4 (by omega)
                   exact AllReadyH.nil
                  refine AllReadyH.cons (o := Oper.mk (some 22) _ _ _ _ _) rfl (fun K hK => ?_) ?_
                  ·
                   as_aux_lemma =>
                   go_simp
                   clear hHeld
                   refine hK.out _ _ (by (try dsimp only); with_reducible (first | exact KS13.out _ (Below.refl _ _).drew | exact KS13.out _ (by assumption) | (refine KS13.out _ ?_; (repeat (first | refine below_alloc ?_ (Nat.le_refl _) | refine Below.drew ?_ | refine below_set ?_ (by omega))); (first | exact hbF2 | exact hbF1 | exact Below.refl _ _)))) (fun hHeld => ?_)
                   clear hK K
                   (try simp only [Act.put, List.setIfInBounds_toArray, List.set_cons_zero, List.set_cons_succ])
                   refine wpAnyH_ready (rs := [1]) (by kernel_rfl) (by simp) ?_
                   refine AllReadyH.cons (o := Oper.mk (some 182) _ _ _ _ _) rfl (fun K hK => ?_) AllReadyH.nil
                   go_simp
                   (go_at_call 58; refine (qint_any 1 _ (by decide) (by decide)).mono ?_; rintro e f1 ⟨nz, oz, lz, cz, pz, mz, kz, rfl, hz, hb⟩; have H1 : Hid (RatAt f1 nz oz lz cz pz mz kz ((1 : Int) : Rat)) := hz; clear hz; have HFA : Hid (Fresh3 f1 Z13.heap.size) := Fresh3.next (Fresh3.drew' (Fresh3.new Z13)) hb; have hbF1 : Below Z13.heap.size Z13 f1 := bnext (below_alloc (Below.refl _ _) (Nat.le_refl _)).drew hb; clear hb)
                   (try go_wp2_with fail)
                   clear hHeld
                   refine hK.out _ _ (by (try dsimp only); with_reducible (first | exact KS13.out _ (Below.refl _ _).drew | exact KS13.out _ (by assumption) | (refine KS13.out _ ?_; (repeat (first | refine below_alloc ?_ (Nat.le_refl _) | refine Below.drew ?_ | refine below_set ?_ (by omega))); (first | exact hbF2 | exact hbF1 | exact Below.refl _ _)))) (fun hHeld => ?_)
                   clear hK K
                   (try simp only [Act.put, List.setIfInBounds_toArray, List.set_cons_zero, List.set_cons_succ])
                   refine wpAnyH_ready (rs := [2]) (by kernel_rfl) (by simp) ?_
                   refine AllReadyH.cons (o := Oper.mk (some 183) _ _ _ _ _) rfl (fun K hK => ?_) AllReadyH.nil
                   go_simp
                   (go_at_call 17; refine (add_rat n21 nz o21 p21 oz pz l21 c21 m21 k21 lz cz mz kz vf ((1 : Int) : Rat) _ (HU13.out.2.2.rat.later hbF1) H1.out HFl.out.2.2.1 (by unfold Sz; decide) (tab_later HT.out.1 (bnext HB13.out hbF1))).mono ?_; rintro e f2 ⟨n5, o5, l5, c5, p5, m5, k5, rfl, hs, ho, hp, _, hb⟩; rw [HFl.out.2.2.2.2.2] at hs ho hp; have HO : Hid (RatAt f2 n5 o5 l5 c5 p5 m5 k5 vo) := ⟨ho.int hs, hp.row⟩; clear hs ho hp; obtain ⟨a5, a2, a3, a4⟩ := Fresh3.next HFA.out hb; have hbF2 : Below Z13.heap.size Z13 f2 := bnext hbF1 hb; clear hb)
                   (try go_wp2_with fail)
                   clear hHeld
                   refine hK.out _ _ (by (try dsimp only); with_reducible (first | exact KS13.out _ (Below.refl _ _).drew | exact KS13.out _ (by assumption) | (refine KS13.out _ ?_; (repeat (first | refine below_alloc ?_ (Nat.le_refl _) | refine Below.drew ?_ | refine below_set ?_ (by omega))); (first | exact hbF2 | exact hbF1 | exact Below.refl _ _)))) (fun hHeld => ?_)
                   clear hK K
                   (try simp only [Act.put, List.setIfInBounds_toArray, List.set_cons_zero, List.set_cons_succ])
                   refine wpAnyH_take (i := 3) (oi := Oper.mk (some 180) _ _ _ _ _) (v := ?_) rfl (by kernel_rfl) (by kernel_rfl) (by kernel_rfl) (fun _ _ _ h => h) (Or.inl ⟨by rfl, ?_⟩) (by assumption) ?_
                   rotate_left
                   ·
                    (intro w hSw; (try dsimp only at hSw); go_simp <;> (try with_reducible rfl))
                   (try simp only [Act.put, List.setIfInBounds_toArray, List.set_cons_zero, List.set_cons_succ])
                   refine wpAnyH_take (i := 4) (oi := Oper.mk (some 184) _ _ _ _ _) (v := ?_) rfl (by kernel_rfl) (by kernel_rfl) (by kernel_rfl) (fun _ _ _ h => h) (Or.inl ⟨by rfl, ?_⟩) (by assumption) ?_
                   rotate_left
                   ·
                    (intro w hSw; (try dsimp only at hSw); go_simp <;> (try with_reducible rfl))
                   (try simp only [Act.put, List.setIfInBounds_toArray, List.set_cons_zero, List.set_cons_succ])
                   refine wpAnyH_take (i := 5) (oi := Oper.mk (some 185) _ _ _ _ _) (v := ?_) rfl (by kernel_rfl) (by kernel_rfl) (by kernel_rfl) (fun _ _ _ h => h) (Or.inl ⟨by rfl, ?_⟩) (by assumption) ?_
                   rotate_left
                   ·
                    (intro w hSw; (try dsimp only at hSw); go_simp <;> (try with_reducible rfl))
                   (try simp only [Act.put, List.setIfInBounds_toArray, List.set_cons_zero, List.set_cons_succ])
                   refine wpAnyH_ready (rs := [7]) (by kernel_rfl) (by simp) ?_
                   refine AllReadyH.cons (o := Oper.mk none _ _ _ _ _) rfl (fun K hK => ?_) AllReadyH.nil
                   go_simp
                   clear hHeld
                   refine hK.out _ _ (by (try dsimp only); with_reducible (first | exact KS13.out _ (Below.refl _ _).drew | exact KS13.out _ (by assumption) | (refine KS13.out _ ?_; (repeat (first | refine below_alloc ?_ (Nat.le_refl _) | refine Below.drew ?_ | refine below_set ?_ (by omega))); (first | exact hbF2 | exact hbF1 | exact Below.refl _ _)))) (fun hHeld => ?_)
                   clear hK K
                   (try simp only [Act.put, List.setIfInBounds_toArray, List.set_cons_zero, List.set_cons_succ])
                   refine wpAnyH_take (i := 8) (oi := Oper.mk (some 23) _ _ _ _ _) (v := ?_) rfl (by kernel_rfl) (by kernel_rfl) (by kernel_rfl) (fun _ _ _ h => h) (Or.inl ⟨by rfl, ?_⟩) (by assumption) ?_
                   rotate_left
                   ·
                    (intro w hSw; (try dsimp only at hSw); go_simp <;> (try with_reducible rfl))
                   (try simp only [Act.put, List.setIfInBounds_toArray, List.set_cons_zero, List.set_cons_succ])
                   refine wpAnyH_done (by kernel_rfl) ?_ _
                   refine NoPanic.normal ?_
                   go_wp2
                   go_meet
                   refine ⟨_, rfl, ?_⟩
                   exact nv_c HO hbF2 a5 a2 a3 a4 (by omega)
                  exact AllReadyH.nil
                 case rest => as_aux_lemma =>
                  obtain ⟨r22, rfl, n22, o22, l22, c22, p22, m22, k22, u22, f22, hr22, hbZ⟩ := hcut
                  obtain ⟨Z14, hZ14⟩ : ∃ Z, Z = wc := ⟨_, rfl⟩
                  rw [← hZ14] at u22 f22 hbZ
                  rw [← hZ14]
                  clear hZ14
                  have HU14 : Hid (RVar Z14 (rA) na ao la ca po lp cp (va) ∧ RVar Z14 (rB) nb bo lb cb qo lq cq (vb) ∧ RVar Z14 (r21) n21 o21 l21 c21 p21 m21 k21 (vf) ∧ RVar Z14 (r22) n22 o22 l22 c22 p22 m22 k22 (vo)) := ⟨(HU13.out.1.later hbZ), (HU13.out.2.1.later hbZ), (HU13.out.2.2.later hbZ), u22⟩
                  have HB14 : Hid (Below w.heap.size w Z14) := bnext HB13.out hbZ
                  have KS14 : Hid (∀ w' : World, Below Z14.heap.size Z14 w' → w'.cell? ⟨rA, 0, none⟩ = some (.bool na) ∧ w'.cell? ⟨rA, 1, none⟩ = some (.slice ao la ca) ∧ w'.cell? ⟨rA, 2, none⟩ = some (.slice po lp cp) ∧ w'.cell? ⟨rB, 0, none⟩ = some (.bool nb) ∧ w'.cell? ⟨rB, 1, none⟩ = some (.slice bo lb cb) ∧ w'.cell? ⟨rB, 2, none⟩ = some (.slice qo lq cq) ∧ w'.cell? ⟨r21, 0, none⟩ = some (.bool n21) ∧ w'.cell? ⟨r21, 1, none⟩ = some (.slice o21 l21 c21) ∧ w'.cell? ⟨r21, 2, none⟩ = some (.slice p21 m21 k21) ∧ w'.cell? ⟨r22, 0, none⟩ = some (.bool n22) ∧ w'.cell? ⟨r22, 1, none⟩ = some (.slice o22 l22 c22) ∧ w'.cell? ⟨r22, 2, none⟩ = some (.slice p22 m22 k22)) := fun w' h => ⟨(HU14.out.1.box.later h HU14.out.1.lt).1, (HU14.out.1.box.later h HU14.out.1.lt).2.1, (HU14.out.1.box.later h HU14.out.1.lt).2.2, (HU14.out.2.1.box.later h HU14.out.2.1.lt).1, (HU14.out.2.1.box.later h HU14.out.2.1.lt).2.1, (HU14.out.2.1.box.later h HU14.out.2.1.lt).2.2, (HU14.out.2.2.1.box.later h HU14.out.2.2.1.lt).1, (HU14.out.2.2.1.box.later h HU14.out.2.2.1.lt).2.1, (HU14.out.2.2.1.box.later h HU14.out.2.2.1.lt).2.2, (HU14.out.2.2.2.box.later h HU14.out.2.2.2.lt).1, (HU14.out.2.2.2.box.later h HU14.out.2.2.2.lt).2.1, (HU14.out.2.2.2.box.later h HU14.out.2.2.2.lt).2.2⟩
                  clear u22 f22 hr22 hbZ HU13 HB13 KS13
                  go_upto_region 26 with fail
                  go_cut [217] (fun s217 wx => s217 = .bool false ∧ Below Z14.heap.size Z14 wx)
                  case first =>
                   have hcf : cmpQ vf va = -1 ∨ cmpQ vf va = 0 := (by rcases cmpI_vals (vf.num * (va.den : Int)) (va.num * (vf.den : Int)) with h | h | h; exact Or.inl h; exact Or.inr h; exact absurd HFl.out.1 (by show ¬ cmpI _ _ ≤ 0; omega))
                   obtain ⟨cf, hcf0⟩ : ∃ c, cmpQ vf va = c := ⟨_, rfl⟩
                   obtain ⟨cab, hcab⟩ : ∃ c, cmpQ va vb = c := ⟨_, rfl⟩
                   have hab3 : cab = -1 ∨ cab = 0 ∨ cab = 1 := hcab ▸ cmpI_vals _ _
                   rw [hcf0] at hcf
                   have HC : Hid (cmpQ vf va = cf ∧ cmpQ va vb = cab) := ⟨hcf0, hcab⟩
                   clear hcf0 hcab
                   rcases hab3 with rfl | hab3
                   ·
                    rcases hcf with rfl | rfl
                    all_goals as_aux_lemma =>
                     obtain ⟨vm, hvm⟩ : ∃ q : Rat, (va + vb) * half2 = q := ⟨_, rfl⟩
                     have HM : Hid (cmpQ va vm = -1 ∧ cmpQ vm vb = -1 ∧ Sz vm 1000 ∧ (va + vb) * half2 = vm) := (by have h1 := mid_lt half2_twice (cmpQ_lt.1 HC.out.2); rw [hvm] at h1; exact ⟨cmpQ_lt.2 h1.1, cmpQ_lt.2 h1.2, by rw [← hvm]; exact ((HSz.out.1.add HSz.out.2.1).mul sz_half2).mono (by decide), hvm⟩)
                     clear hvm
                     refine wp_region_noPanic ?_
                     refine wp_region_held_drew (S := fun w' => (w'.cell? ⟨rA, 0, none⟩ = some (.bool na) ∧ w'.cell? ⟨rA, 1, none⟩ = some (.slice ao la ca) ∧ w'.cell? ⟨rA, 2, none⟩ = some (.slice po lp cp) ∧ w'.cell? ⟨rB, 0, none⟩ = some (.bool nb) ∧ w'.cell? ⟨rB, 1, none⟩ = some (.slice bo lb cb) ∧ w'.cell? ⟨rB, 2, none⟩ = some (.slice qo lq cq) ∧ w'.cell? ⟨r21, 0, none⟩ = some (.bool n21) ∧ w'.cell? ⟨r21, 1, none⟩ = some (.slice o21 l21 c21) ∧ w'.cell? ⟨r21, 2, none⟩ = some (.slice p21 m21 k21) ∧ w'.cell? ⟨r22, 0, none⟩ = some (.bool n22) ∧ w'.cell? ⟨r22, 1, none⟩ = some (.slice o22 l22 c22) ∧ w'.cell? ⟨r22, 2, none⟩ = some (.slice p22 m22 k22))) (by kernel_rfl) (by (try dsimp only); exact KS14.out _ (Below.refl _ _).drew) (fun hHeld => ?_)
                     refine wpAnyH_take (i := 0) (oi := Oper.mk (some 186) _ _ _ _ _) (v := ?_) rfl (by kernel_rfl) (by kernel_rfl) (by kernel_rfl) (fun _ _ _ h => h) (Or.inl ⟨by rfl, ?_⟩) (by assumption) ?_
                     rotate_left
                     ·
                      (intro w hSw; (try dsimp only at hSw); go_simp <;> (try with_reducible rfl))
                     (try simp only [Act.put, List.setIfInBounds_toArray, List.set_cons_zero, List.set_cons_succ])
                     refine wpAnyH_take (i := 1) (oi := Oper.mk (some 187) _ _ _ _ _) (v := ?_) rfl (by kernel_rfl) (by kernel_rfl) (by kernel_rfl) (fun _ _ _ h => h) (Or.inl ⟨by rfl, ?_⟩) (by assumption) ?_
                     rotate_left
                     ·
                      (intro w hSw; (try dsimp only at hSw); go_simp <;> (try with_reducible rfl))
                     (try simp only [Act.put, List.setIfInBounds_toArray, List.set_cons_zero, List.set_cons_succ])
                     refine wpAnyH_ready (rs := [2]) (by kernel_rfl) (by simp) ?_
                     refine AllReadyH.cons (o := Oper.mk (some 188) _ _ _ _ _) rfl (fun K hK => ?_) AllReadyH.nil
                     go_simp
                     (go_at_call 45; refine (cmp_rat n21 na o21 p21 ao po l21 c21 m21 k21 la ca lp cp vf va _ (HU14.out.2.2.1.rat.later (Below.refl _ _).drew) (HU14.out.1.rat.later (Below.refl _ _).drew) (HFl.out.2.2.1.mono (by decide)) (HSz.out.1.mono (by decide)) (tab_later HT.out.1 (bnext HB14.out (Below.refl _ _).drew)) _ HC.out.1).mono ?_; rintro e f1 ⟨rfl, hb⟩; skip; have hbF1 : Below Z14.heap.size Z14 f1 := bnext (Below.refl _ _).drew hb; clear hb)
                     (try go_wp2_with fail)
                     clear hHeld
                     refine hK.out _ _ (by (try dsimp only); first | exact KS14.out _ (Below.refl _ _).drew | exact KS14.out _ (by assumption)) (fun hHeld => ?_)
                     clear hK K
                     (try simp only [Act.put, List.setIfInBounds_toArray, List.set_cons_zero, List.set_cons_succ])
                     refine wpAnyH_take (i := 3) (oi := Oper.mk (some 189) _ _ _ _ _) (v := ?_) rfl (by kernel_rfl) (by kernel_rfl) (by kernel_rfl) (fun _ _ _ h => h) (Or.inl ⟨by rfl, ?_⟩) (by assumption) ?_
                     rotate_left
                     ·
                      (intro w hSw; (try dsimp only at hSw); go_simp <;> (try with_reducible rfl))
                     (try simp only [Act.put, List.setIfInBounds_toArray, List.set_cons_zero, List.set_cons_succ])
                     refine wpAnyH_take (i := 4) (oi := Oper.mk (some 190) _ _ _ _ _) (v := ?_) rfl (by kernel_rfl) (by kernel_rfl) (by kernel_rfl) (fun _ _ _ h => h) (Or.inl ⟨by rfl, ?_⟩) (by assumption) ?_
                     rotate_left
                     ·
                      (intro w hSw; (try dsimp only at hSw); go_simp <;> (try with_reducible rfl))
                     (try simp only [Act.put, List.setIfInBounds_toArray, List.set_cons_zero, List.set_cons_succ])
                     refine wpAnyH_take (i := 5) (oi := Oper.mk (some 191) _ _ _ _ _) (v := ?_) rfl (by kernel_rfl) (by kernel_rfl) (by kernel_rfl) (fun _ _ _ h => h) (Or.inl ⟨by rfl, ?_⟩) (by assumption) ?_
                     rotate_left
                     ·
                      (intro w hSw; (try dsimp only at hSw); go_simp <;> (try with_reducible rfl))
                     (try simp only [Act.put, List.setIfInBounds_toArray, List.set_cons_zero, List.set_cons_succ])
                     refine wpAnyH_take (i := 6) (oi := Oper.mk (some 192) _ _ _ _ _) (v := ?_) rfl (by kernel_rfl) (by kernel_rfl) (by kernel_rfl) (fun _ _ _ h => h) (Or.inl ⟨by rfl, ?_⟩) (by assumption) ?_
                     rotate_left
                     ·
                      (intro w hSw; (try dsimp only at hSw); go_simp <;> (try with_reducible rfl))
                     (try simp only [Act.put, List.setIfInBounds_toArray, List.set_cons_zero, List.set_cons_succ])
                     refine wpAnyH_ready (rs := [7]) (by kernel_rfl) (by simp) ?_
                     refine AllReadyH.cons (o := Oper.mk (some 193) _ _ _ _ _) rfl (fun K hK => ?_) AllReadyH.nil
                     go_simp
                     (go_at_call 45; refine (cmp_rat na n22 ao po o22 p22 la ca lp cp l22 c22 m22 k22 va vo _ (HU14.out.1.rat.later hbF1) (HU14.out.2.2.2.rat.later hbF1) (HSz.out.1.mono (by decide)) (HFl.out.2.2.2.1.mono (by decide)) (tab_later HT.out.1 (bnext HB14.out hbF1)) (-1) HFl.out.2.1).mono ?_; rintro e f2 ⟨rfl, hb⟩; skip; have hbF2 : Below Z14.heap.size Z14 f2 := bnext hbF1 hb; clear hb)
                     (try go_wp2_with fail)
                     clear hHeld
                     refine hK.out _ _ (by (try dsimp only); first | exact KS14.out _ (Below.refl _ _).drew | exact KS14.out _ (by assumption)) (fun hHeld => ?_)
                     clear hK K
                     (try simp only [Act.put, List.setIfInBounds_toArray, List.set_cons_zero, List.set_cons_succ])
                     refine wpAnyH_take (i := 8) (oi := Oper.mk (some 194) _ _ _ _ _) (v := ?_) rfl (by kernel_rfl) (by kernel_rfl) (by kernel_rfl) (fun _ _ _ h => h) (Or.inl ⟨by rfl, ?_⟩) (by assumption) ?_
                     rotate_left
                     ·
                      (intro w hSw; (try dsimp only at hSw); go_simp <;> (try with_reducible rfl))
                     (try simp only [Act.put, List.setIfInBounds_toArray, List.set_cons_zero, List.set_cons_succ])
                     refine wpAnyH_take (i := 9) (oi := Oper.mk (some 195) _ _ _ _ _) (v := ?_) rfl (by kernel_rfl) (by kernel_rfl) (by kernel_rfl) (fun _ _ _ h => h) (Or.inl ⟨by rfl, ?_⟩) (by assumption) ?_
                     rotate_left
                     ·
                      (intro w hSw; (try dsimp only at hSw); go_simp <;> (try with_reducible rfl))
                     (try simp only [Act.put, List.setIfInBounds_toArray, List.set_cons_zero, List.set_cons_succ])
                     refine wpAnyH_take (i := 10) (oi := Oper.mk (some 196) _ _ _ _ _) (v := ?_) rfl (by kernel_rfl) (by kernel_rfl) (by kernel_rfl) (fun _ _ _ h => h) (Or.inl ⟨by rfl, ?_⟩) (by assumption) ?_
                     rotate_left
                     ·
                      (intro w hSw; (try dsimp only at hSw); go_simp <;> (try with_reducible rfl))
                     (try simp only [Act.put, List.setIfInBounds_toArray, List.set_cons_zero, List.set_cons_succ])
                     refine wpAnyH_take (i := 11) (oi := Oper.mk (some 197) _ _ _ _ _) (v := ?_) rfl (by kernel_rfl) (by kernel_rfl) (by kernel_rfl) (fun _ _ _ h => h) (Or.inl ⟨by rfl, ?_⟩) (by assumption) ?_
                     rotate_left
                     ·
                      (intro w hSw; (try dsimp only at hSw); go_simp <;> (try with_reducible rfl))
                     (try simp only [Act.put, List.setIfInBounds_toArray, List.set_cons_zero, List.set_cons_succ])
                     refine wpAnyH_take (i := 12) (oi := Oper.mk (some 198) _ _ _ _ _) (v := ?_) rfl (by kernel_rfl) (by kernel_rfl) (by kernel_rfl) (fun _ _ _ h => h) (Or.inl ⟨by rfl, ?_⟩) (by assumption) ?_
                     rotate_left
                     ·
                      (intro w hSw; (try dsimp only at hSw); go_simp <;> (try with_reducible rfl))
                     (try simp only [Act.put, List.setIfInBounds_toArray, List.set_cons_zero, List.set_cons_succ])
                     refine wpAnyH_ready (rs := [13]) (by kernel_rfl) (by simp) ?_
                     refine AllReadyH.cons (o := Oper.mk (some 199) _ _ _ _ _) rfl (fun K hK => ?_) AllReadyH.nil
                     go_simp
                     (go_at_call 45; refine (cmp_rat na nb ao po bo qo la ca lp cp lb cb lq cq va vb _ (HU14.out.1.rat.later hbF2) (HU14.out.2.1.rat.later hbF2) (HSz.out.1.mono (by decide)) (HSz.out.2.1.mono (by decide)) (tab_later HT.out.1 (bnext HB14.out hbF2)) (-1) HC.out.2).mono ?_; rintro e f3 ⟨rfl, hb⟩; skip; have hbF3 : Below Z14.heap.size Z14 f3 := bnext hbF2 hb; clear hb)
                     (try go_wp2_with fail)
                     clear hHeld
                     refine hK.out _ _ (by (try dsimp only); first | exact KS14.out _ (Below.refl _ _).drew | exact KS14.out _ (by assumption)) (fun hHeld => ?_)
                     clear hK K
                     (try simp only [Act.put, List.setIfInBounds_toArray, List.set_cons_zero, List.set_cons_succ])
                     refine wpAnyH_take (i := 14) (oi := Oper.mk (some 200) _ _ _ _ _) (v := ?_) rfl (by kernel_rfl) (by kernel_rfl) (by kernel_rfl) (fun _ _ _ h => h) (Or.inl ⟨by rfl, ?_⟩) (by assumption) ?_
                     rotate_left
                     ·
                      (intro w hSw; (try dsimp only at hSw); go_simp <;> (try with_reducible rfl))
                     (try simp only [Act.put, List.setIfInBounds_toArray, List.set_cons_zero, List.set_cons_succ])
                     refine wpAnyH_take (i := 15) (oi := Oper.mk (some 201) _ _ _ _ _) (v := ?_) rfl (by kernel_rfl) (by kernel_rfl) (by kernel_rfl) (fun _ _ _ h => h) (Or.inl ⟨by rfl, ?_⟩) (by assumption) ?_
                     rotate_left
                     ·
                      (intro w hSw; (try dsimp only at hSw); go_simp <;> (try with_reducible rfl))
                     (try simp only [Act.put, List.setIfInBounds_toArray, List.set_cons_zero, List.set_cons_succ])
                     refine wpAnyH_take (i := 16) (oi := Oper.mk (some 202) _ _ _ _ _) (v := ?_) rfl (by kernel_rfl) (by kernel_rfl) (by kernel_rfl) (fun _ _ _ h => h) (Or.inl ⟨by rfl, ?_⟩) (by assumption) ?_
                     rotate_left
                     ·
                      (intro w hSw; (try dsimp only at hSw); go_simp <;> (try with_reducible rfl))
                     (try simp only [Act.put, List.setIfInBounds_toArray, List.set_cons_zero, List.set_cons_succ])
                     refine wpAnyH_take (i := 17) (oi := Oper.mk (some 203) _ _ _ _ _) (v := ?_) rfl (by kernel_rfl) (by kernel_rfl) (by kernel_rfl) (fun _ _ _ h => h) (Or.inl ⟨by rfl, ?_⟩) (by assumption) ?_
                     rotate_left
                     ·
                      (intro w hSw; (try dsimp only at hSw); go_simp <;> (try with_reducible rfl))
                     (try simp only [Act.put, List.setIfInBounds_toArray, List.set_cons_zero, List.set_cons_succ])
                     refine wpAnyH_take (i := 18) (oi := Oper.mk (some 204) _ _ _ _ _) (v := ?_) rfl (by kernel_rfl) (by kernel_rfl) (by kernel_rfl) (fun _ _ _ h => h) (Or.inl ⟨by rfl, ?_⟩) (by assumption) ?_
                     rotate_left
                     ·
                      (intro w hSw; (try dsimp only at hSw); go_simp <;> (try with_reducible rfl))
                     (try simp only [Act.put, List.setIfInBounds_toArray, List.set_cons_zero, List.set_cons_succ])
                     refine wpAnyH_ready (rs := [19]) (by kernel_rfl) (by simp) ?_
                     refine AllReadyH.cons (o := Oper.mk (some 205) _ _ _ _ _) rfl (fun K hK => ?_) AllReadyH.nil
                     go_simp
                     (go_at_call 46; refine (mid_rat na nb ao po bo qo la ca lp cp lb cb lq cq va vb _ (HU14.out.1.rat.later hbF3) (HU14.out.2.1.rat.later hbF3) (HSz.out.1.mono (by decide)) (HSz.out.2.1.mono (by decide)) (tab_later HT.out.1 (bnext HB14.out hbF3))).mono ?_; rintro e f4 ⟨n34, o34, l34, c34, p34, m34, k34, rfl, hs, ho, hp, _, hb⟩; rw [HM.out.2.2.2] at hs ho hp; have HMv4 : Hid (RatAt f4 n34 o34 l34 c34 p34 m34 k34 vm) := ⟨ho.int hs, hp.row⟩; clear hs ho hp; have hbF4 : Below Z14.heap.size Z14 f4 := bnext hbF3 hb; clear hb)
                     (try go_wp2_with fail)
                     clear hHeld
                     refine hK.out _ _ (by (try dsimp only); first | exact KS14.out _ (Below.refl _ _).drew | exact KS14.out _ (by assumption)) (fun hHeld => ?_)
                     clear hK K
                     (try simp only [Act.put, List.setIfInBounds_toArray, List.set_cons_zero, List.set_cons_succ])
                     refine wpAnyH_ready (rs := [20]) (by kernel_rfl) (by simp) ?_
                     refine AllReadyH.cons (o := Oper.mk (some 206) _ _ _ _ _) rfl (fun K hK => ?_) AllReadyH.nil
                     go_simp
                     (go_at_call 45; refine (cmp_rat na n34 ao po o34 p34 la ca lp cp l34 c34 m34 k34 va vm _ (HU14.out.1.rat.later hbF4) (HMv4.out.later (Below.refl _ _)) (HSz.out.1.mono (by decide)) (HM.out.2.2.1.mono (by decide)) (tab_later HT.out.1 (bnext HB14.out hbF4)) (-1) HM.out.1).mono ?_; rintro e f5 ⟨rfl, hb⟩; skip; have hbF5 : Below Z14.heap.size Z14 f5 := bnext hbF4 hb; clear hb)
                     (try go_wp2_with fail)
                     clear hHeld
                     refine hK.out _ _ (by (try dsimp only); first | exact KS14.out _ (Below.refl _ _).drew | exact KS14.out _ (by assumption)) (fun hHeld => ?_)
                     clear hK K
                     (try simp only [Act.put, List.setIfInBounds_toArray, List.set_cons_zero, List.set_cons_succ])
                     refine wpAnyH_take (i := 21) (oi := Oper.mk (some 207) _ _ _ _ _) (v := ?_) rfl (by kernel_rfl) (by kernel_rfl) (by kernel_rfl) (fun _ _ _ h => h) (Or.inl ⟨by rfl, ?_⟩) (by assumption) ?_
                     rotate_left
                     ·
                      (intro w hSw; (try dsimp only at hSw); go_simp <;> (try with_reducible rfl))
                     (try simp only [Act.put, List.setIfInBounds_toArray, List.set_cons_zero, List.set_cons_succ])
                     refine wpAnyH_take (i := 22) (oi := Oper.mk (some 208) _ _ _ _ _) (v := ?_) rfl (by kernel_rfl) (by kernel_rfl) (by kernel_rfl) (fun _ _ _ h => h) (Or.inl ⟨by rfl, ?_⟩) (by assumption) ?_
                     rotate_left
                     ·
                      (intro w hSw; (try dsimp only at hSw); go_simp <;> (try with_reducible rfl))
                     (try simp only [Act.put, List.setIfInBounds_toArray, List.set_cons_zero, List.set_cons_succ])
                     refine wpAnyH_take (i := 23) (oi := Oper.mk (some 209) _ _ _ _ _) (v := ?_) rfl (by kernel_rfl) (by kernel_rfl) (by kernel_rfl) (fun _ _ _ h => h) (Or.inl ⟨by rfl, ?_⟩) (by assumption) ?_
                     rotate_left
                     ·
                      (intro w hSw; (try dsimp only at hSw); go_simp <;> (try with_reducible rfl))
                     (try simp only [Act.put, List.setIfInBounds_toArray, List.set_cons_zero, List.set_cons_succ])
                     refine wpAnyH_take (i := 24) (oi := Oper.mk (some 210) _ _ _ _ _) (v := ?_) rfl (by kernel_rfl) (by kernel_rfl) (by kernel_rfl) (fun _ _ _ h => h) (Or.inl ⟨by rfl, ?_⟩) (by assumption) ?_
                     rotate_left
                     ·
                      (intro w hSw; (try dsimp only at hSw); go_simp <;> (try with_reducible rfl))
                     (try simp only [Act.put, List.setIfInBounds_toArray, List.set_cons_zero, List.set_cons_succ])
                     refine wpAnyH_take (i := 26) (oi := Oper.mk (some 212) _ _ _ _ _) (v := ?_) rfl (by kernel_rfl) (by kernel_rfl) (by kernel_rfl) (fun _ _ _ h => h) (Or.inl ⟨by rfl, ?_⟩) (by assumption) ?_
                     rotate_left
                     ·
                      (intro w hSw; (try dsimp only at hSw); go_simp <;> (try with_reducible rfl))
                     (try simp only [Act.put, List.setIfInBounds_toArray, List.set_cons_zero, List.set_cons_succ])
                     refine wpAnyH_ready (rs := [25]) (by kernel_rfl) (by simp) ?_
                     refine AllReadyH.cons (o := Oper.mk (some 211) _ _ _ _ _) rfl (fun K hK => ?_) AllReadyH.nil
                     go_simp
                     (go_at_call 46; refine (mid_rat na nb ao po bo qo la ca lp cp lb cb lq cq va vb _ (HU14.out.1.rat.later hbF5) (HU14.out.2.1.rat.later hbF5) (HSz.out.1.mono (by decide)) (HSz.out.2.1.mono (by decide)) (tab_later HT.out.1 (bnext HB14.out hbF5))).mono ?_; rintro e f6 ⟨n36, o36, l36, c36, p36, m36, k36, rfl, hs, ho, hp, _, hb⟩; rw [HM.out.2.2.2] at hs ho hp; have HMv6 : Hid (RatAt f6 n36 o36 l36 c36 p36 m36 k36 vm) := ⟨ho.int hs, hp.row⟩; clear hs ho hp; have hbF6 : Below Z14.heap.size Z14 f6 := bnext hbF5 hb; clear hb)
                     (try go_wp2_with fail)
                     clear hHeld
                     refine hK.out _ _ (by (try dsimp only); first | exact KS14.out _ (Below.refl _ _).drew | exact KS14.out _ (by assumption)) (fun hHeld => ?_)
                     clear hK K
                     (try simp only [Act.put, List.setIfInBounds_toArray, List.set_cons_zero, List.set_cons_succ])
                     refine wpAnyH_ready (rs := [27]) (by kernel_rfl) (by simp) ?_
                     refine AllReadyH.cons (o := Oper.mk (some 213) _ _ _ _ _) rfl (fun K hK => ?_) AllReadyH.nil
                     go_simp
                     (go_at_call 45; refine (cmp_rat n36 nb o36 p36 bo qo l36 c36 m36 k36 lb cb lq cq vm vb _ (HMv6.out.later (Below.refl _ _)) (HU14.out.2.1.rat.later hbF6) (HM.out.2.2.1.mono (by decide)) (HSz.out.2.1.mono (by decide)) (tab_later HT.out.1 (bnext HB14.out hbF6)) (-1) HM.out.2.1).mono ?_; rintro e f7 ⟨rfl, hb⟩; skip; have hbF7 : Below Z14.heap.size Z14 f7 := bnext hbF6 hb; clear hb)
                     (try go_wp2_with fail)
                     clear hHeld
                     refine hK.out _ _ (by (try dsimp only); first | exact KS14.out _ (Below.refl _ _).drew | exact KS14.out _ (by assumption)) (fun hHeld => ?_)
                     clear hK K
                     (try simp only [Act.put, List.setIfInBounds_toArray, List.set_cons_zero, List.set_cons_succ])
                     refine wpAnyH_take (i := 28) (oi := Oper.mk (some 214) _ _ _ _ _) (v := ?_) rfl (by kernel_rfl) (by kernel_rfl) (by kernel_rfl) (fun _ _ _ h => h) (Or.inl ⟨by rfl, ?_⟩) (by assumption) ?_
                     rotate_left
                     ·
                      (intro w hSw; (try dsimp only at hSw); go_simp <;> (try with_reducible rfl))
                     (try simp only [Act.put, List.setIfInBounds_toArray, List.set_cons_zero, List.set_cons_succ])
                     refine wpAnyH_take (i := 29) (oi := Oper.mk (some 215) _ _ _ _ _) (v := ?_) rfl (by kernel_rfl) (by kernel_rfl) (by kernel_rfl) (fun _ _ _ h => h) (Or.inl ⟨by rfl, ?_⟩) (by assumption) ?_
                     rotate_left
                     ·
                      (intro w hSw; (try dsimp only at hSw); go_simp <;> (try with_reducible rfl))
                     (try simp only [Act.put, List.setIfInBounds_toArray, List.set_cons_zero, List.set_cons_succ])
                     refine wpAnyH_take (i := 30) (oi := Oper.mk (some 216) _ _ _ _ _) (v := ?_) rfl (by kernel_rfl) (by kernel_rfl) (by kernel_rfl) (fun _ _ _ h => h) (Or.inl ⟨by rfl, ?_⟩) (by assumption) ?_
                     rotate_left
                     ·
                      (intro w hSw; (try dsimp only at hSw); go_simp <;> (try with_reducible rfl))
                     (try simp only [Act.put, List.setIfInBounds_toArray, List.set_cons_zero, List.set_cons_succ])
                     refine wpAnyH_take (i := 31) (oi := Oper.mk (some 217) _ _ _ _ _) (v := ?_) rfl (by kernel_rfl) (by kernel_rfl) (by kernel_rfl) (fun _ _ _ h => h) (Or.inl ⟨by rfl, ?_⟩) (by assumption) ?_
                     rotate_left
                     ·
                      (intro w hSw; (try dsimp only at hSw); go_simp <;> (try with_reducible rfl))
                     (try simp only [Act.put, List.setIfInBounds_toArray, List.set_cons_zero, List.set_cons_succ])
                     refine wpAnyH_done (by kernel_rfl) ?_ _
                     refine NoPanic.normal ?_
                     go_wp2
                     go_meet
                     exact ⟨rfl, hbF7⟩
                   ·
                    rcases hab3 with rfl | rfl <;> rcases hcf with rfl | rfl
                    all_goals as_aux_lemma =>
                     refine wp_region_noPanic ?_
                     refine wp_region_held_drew (S := fun w' => (w'.cell? ⟨rA, 0, none⟩ = some (.bool na) ∧ w'.cell? ⟨rA, 1, none⟩ = some (.slice ao la ca) ∧ w'.cell? ⟨rA, 2, none⟩ = some (.slice po lp cp) ∧ w'.cell? ⟨rB, 0, none⟩ = some (.bool nb) ∧ w'.cell? ⟨rB, 1, none⟩ = some (.slice bo lb cb) ∧ w'.cell? ⟨rB, 2, none⟩ = some (.slice qo lq cq) ∧ w'.cell? ⟨r21, 0, none⟩ = some (.bool n21) ∧ w'.cell? ⟨r21, 1, none⟩ = some (.slice o21 l21 c21) ∧ w'.cell? ⟨r21, 2, none⟩ = some (.slice p21 m21 k21) ∧ w'.cell? ⟨r22, 0, none⟩ = some (.bool n22) ∧ w'.cell? ⟨r22, 1, none⟩ = some (.slice o22 l22 c22) ∧ w'.cell? ⟨r22, 2, none⟩ = some (.slice p22 m22 k22))) (by kernel_rfl) (by (try dsimp only); exact KS14.out _ (Below.refl _ _).drew) (fun hHeld => ?_)
                     refine wpAnyH_take (i := 0) (oi := Oper.mk (some 186) _ _ _ _ _) (v := ?_) rfl (by kernel_rfl) (by kernel_rfl) (by kernel_rfl) (fun _ _ _ h => h) (Or.inl ⟨by rfl, ?_⟩) (by assumption) ?_
                     rotate_left
                     ·
                      (intro w hSw; (try dsimp only at hSw); go_simp <;> (try with_reducible rfl))
                     (try simp only [Act.put, List.setIfInBounds_toArray, List.set_cons_zero, List.set_cons_succ])
                     refine wpAnyH_take (i := 1) (oi := Oper.mk (some 187) _ _ _ _ _) (v := ?_) rfl (by kernel_rfl) (by kernel_rfl) (by kernel_rfl) (fun _ _ _ h => h) (Or.inl ⟨by rfl, ?_⟩) (by assumption) ?_
                     rotate_left
                     ·
                      (intro w hSw; (try dsimp only at hSw); go_simp <;> (try with_reducible rfl))
                     (try simp only [Act.put, List.setIfInBounds_toArray, List.set_cons_zero, List.set_cons_succ])
                     refine wpAnyH_ready (rs := [2]) (by kernel_rfl) (by simp) ?_
                     refine AllReadyH.cons (o := Oper.mk (some 188) _ _ _ _ _) rfl (fun K hK => ?_) AllReadyH.nil
                     go_simp
                     (go_at_call 45; refine (cmp_rat n21 na o21 p21 ao po l21 c21 m21 k21 la ca lp cp vf va _ (HU14.out.2.2.1.rat.later (Below.refl _ _).drew) (HU14.out.1.rat.later (Below.refl _ _).drew) (HFl.out.2.2.1.mono (by decide)) (HSz.out.1.mono (by decide)) (tab_later HT.out.1 (bnext HB14.out (Below.refl _ _).drew)) _ HC.out.1).mono ?_; rintro e f1 ⟨rfl, hb⟩; skip; have hbF1 : Below Z14.heap.size Z14 f1 := bnext (Below.refl _ _).drew hb; clear hb)
                     (try go_wp2_with fail)
                     clear hHeld
                     refine hK.out _ _ (by (try dsimp only); first | exact KS14.out _ (Below.refl _ _).drew | exact KS14.out _ (by assumption)) (fun hHeld => ?_)
                     clear hK K
                     (try simp only [Act.put, List.setIfInBounds_toArray, List.set_cons_zero, List.set_cons_succ])
                     refine wpAnyH_take (i := 3) (oi := Oper.mk (some 189) _ _ _ _ _) (v := ?_) rfl (by kernel_rfl) (by kernel_rfl) (by kernel_rfl) (fun _ _ _ h => h) (Or.inl ⟨by rfl, ?_⟩) (by assumption) ?_
                     rotate_left
                     ·
                      (intro w hSw; (try dsimp only at hSw); go_simp <;> (try with_reducible rfl))
                     (try simp only [Act.put, List.setIfInBounds_toArray, List.set_cons_zero, List.set_cons_succ])
                     refine wpAnyH_take (i := 4) (oi := Oper.mk (some 190) _ _ _ _ _) (v := ?_) rfl (by kernel_rfl) (by kernel_rfl) (by kernel_rfl) (fun _ _ _ h => h) (Or.inl ⟨by rfl, ?_⟩) (by assumption) ?_
                     rotate_left
                     ·
                      (intro w hSw; (try dsimp only at hSw); go_simp <;> (try with_reducible rfl))
                     (try simp only [Act.put, List.setIfInBounds_toArray, List.set_cons_zero, List.set_cons_succ])
                     refine wpAnyH_take (i := 5) (oi := Oper.mk (some 191) _ _ _ _ _) (v := ?_) rfl (by kernel_rfl) (by kernel_rfl) (by kernel_rfl) (fun _ _ _ h => h) (Or.inl ⟨by rfl, ?_⟩) (by assumption) ?_
                     rotate_left
                     ·
                      (intro w hSw; (try dsimp only at hSw); go_simp <;> (try with_reducible rfl))
                     (try simp only [Act.put, List.setIfInBounds_toArray, List.set_cons_zero, List.set_cons_succ])
                     refine wpAnyH_take (i := 6) (oi := Oper.mk (some 192) _ _ _ _ _) (v := ?_) rfl (by kernel_rfl) (by kernel_rfl) (by kernel_rfl) (fun _ _ _ h => h) (Or.inl ⟨by rfl, ?_⟩) (by assumption) ?_
                     rotate_left
                     ·
                      (intro w hSw; (try dsimp only at hSw); go_simp <;> (try with_reducible rfl))
                     (try simp only [Act.put, List.setIfInBounds_toArray, List.set_cons_zero, List.set_cons_succ])
                     refine wpAnyH_ready (rs := [7]) (by kernel_rfl) (by simp) ?_
                     refine AllReadyH.cons (o := Oper.mk (some 193) _ _ _ _ _) rfl (fun K hK => ?_) AllReadyH.nil
                     go_simp
                     (go_at_call 45; refine (cmp_rat na n22 ao po o22 p22 la ca lp cp l22 c22 m22 k22 va vo _ (HU14.out.1.rat.later hbF1) (HU14.out.2.2.2.rat.later hbF1) (HSz.out.1.mono (by decide)) (HFl.out.2.2.2.1.mono (by decide)) (tab_later HT.out.1 (bnext HB14.out hbF1)) (-1) HFl.out.2.1).mono ?_; rintro e f2 ⟨rfl, hb⟩; skip; have hbF2 : Below Z14.heap.size Z14 f2 := bnext hbF1 hb; clear hb)
                     (try go_wp2_with fail)
                     clear hHeld
                     refine hK.out _ _ (by (try dsimp only); first | exact KS14.out _ (Below.refl _ _).drew | exact KS14.out _ (by assumption)) (fun hHeld => ?_)
                     clear hK K
                     (try simp only [Act.put, List.setIfInBounds_toArray, List.set_cons_zero, List.set_cons_succ])
                     refine wpAnyH_take (i := 8) (oi := Oper.mk (some 194) _ _ _ _ _) (v := ?_) rfl (by kernel_rfl) (by kernel_rfl) (by kernel_rfl) (fun _ _ _ h => h) (Or.inl ⟨by rfl, ?_⟩) (by assumption) ?_
                     rotate_left
                     ·
                      (intro w hSw; (try dsimp only at hSw); go_simp <;> (try with_reducible rfl))
                     (try simp only [Act.put, List.setIfInBounds_toArray, List.set_cons_zero, List.set_cons_succ])
                     refine wpAnyH_take (i := 9) (oi := Oper.mk (some 195) _ _ _ _ _) (v := ?_) rfl (by kernel_rfl) (by kernel_rfl) (by kernel_rfl) (fun _ _ _ h => h) (Or.inl ⟨by rfl, ?_⟩) (by assumption) ?_
                     rotate_left
                     ·
                      (intro w hSw; (try dsimp only at hSw); go_simp <;> (try with_reducible rfl))
                     (try simp only [Act.put, List.setIfInBounds_toArray, List.set_cons_zero, List.set_cons_succ])
                     refine wpAnyH_take (i := 10) (oi := Oper.mk (some 196) _ _ _ _ _) (v := ?_) rfl (by kernel_rfl) (by kernel_rfl) (by kernel_rfl) (fun _ _ _ h => h) (Or.inl ⟨by rfl, ?_⟩) (by assumption) ?_
                     rotate_left
                     ·
                      (intro w hSw; (try dsimp only at hSw); go_simp <;> (try with_reducible rfl))
                     (try simp only [Act.put, List.setIfInBounds_toArray, List.set_cons_zero, List.set_cons_succ])
                     refine wpAnyH_take (i := 11) (oi := Oper.mk (some 197) _ _ _ _ _) (v := ?_) rfl (by kernel_rfl) (by kernel_rfl) (by kernel_rfl) (fun _ _ _ h => h) (Or.inl ⟨by rfl, ?_⟩) (by assumption) ?_
                     rotate_left
                     ·
                      (intro w hSw; (try dsimp only at hSw); go_simp <;> (try with_reducible rfl))
                     (try simp only [Act.put, List.setIfInBounds_toArray, List.set_cons_zero, List.set_cons_succ])
                     refine wpAnyH_take (i := 12) (oi := Oper.mk (some 198) _ _ _ _ _) (v := ?_) rfl (by kernel_rfl) (by kernel_rfl) (by kernel_rfl) (fun _ _ _ h => h) (Or.inl ⟨by rfl, ?_⟩) (by assumption) ?_
                     rotate_left
                     ·
                      (intro w hSw; (try dsimp only at hSw); go_simp <;> (try with_reducible rfl))
                     (try simp only [Act.put, List.setIfInBounds_toArray, List.set_cons_zero, List.set_cons_succ])
                     refine wpAnyH_ready (rs := [13]) (by kernel_rfl) (by simp) ?_
                     refine AllReadyH.cons (o := Oper.mk (some 199) _ _ _ _ _) rfl (fun K hK => ?_) AllReadyH.nil
                     go_simp
                     (go_at_call 45; refine (cmp_rat na nb ao po bo qo la ca lp cp lb cb lq cq va vb _ (HU14.out.1.rat.later hbF2) (HU14.out.2.1.rat.later hbF2) (HSz.out.1.mono (by decide)) (HSz.out.2.1.mono (by decide)) (tab_later HT.out.1 (bnext HB14.out hbF2)) _ HC.out.2).mono ?_; rintro e f3 ⟨rfl, hb⟩; skip; have hbF3 : Below Z14.heap.size Z14 f3 := bnext hbF2 hb; clear hb)
                     (try go_wp2_with fail)
                     clear hHeld
                     refine hK.out _ _ (by (try dsimp only); first | exact KS14.out _ (Below.refl _ _).drew | exact KS14.out _ (by assumption)) (fun hHeld => ?_)
                     clear hK K
                     (try simp only [Act.put, List.setIfInBounds_toArray, List.set_cons_zero, List.set_cons_succ])
                     refine wpAnyH_take (i := 14) (oi := Oper.mk (some 200) _ _ _ _ _) (v := ?_) rfl (by kernel_rfl) (by kernel_rfl) (by kernel_rfl) (fun _ _ _ h => h) (Or.inl ⟨by rfl, ?_⟩) (by assumption) ?_
                     rotate_left
                     ·
                      (intro w hSw; (try dsimp only at hSw); go_simp <;> (try with_reducible rfl))
                     (try simp only [Act.put, List.setIfInBounds_toArray, List.set_cons_zero, List.set_cons_succ])
                     refine wpAnyH_take (i := 15) (oi := Oper.mk (some 201) _ _ _ _ _) (v := ?_) rfl (by kernel_rfl) (by kernel_rfl) (by kernel_rfl) (fun _ _ _ h => h) (Or.inl ⟨by rfl, ?_⟩) (by assumption) ?_
                     rotate_left
                     ·
                      (intro w hSw; (try dsimp only at hSw); go_simp <;> (try with_reducible rfl))
                     (try simp only [Act.put, List.setIfInBounds_toArray, List.set_cons_zero, List.set_cons_succ])
                     refine wpAnyH_take (i := 16) (oi := Oper.mk (some 202) _ _ _ _ _) (v := undef) rfl (by kernel_rfl) (by kernel_rfl) (by kernel_rfl) (fun _ _ _ h => h) (Or.inr ⟨by rfl, rfl⟩) (by assumption) ?_
                     (try simp only [Act.put, List.setIfInBounds_toArray, List.set_cons_zero, List.set_cons_succ])
                     refine wpAnyH_take (i := 17) (oi := Oper.mk (some 203) _ _ _ _ _) (v := undef) rfl (by kernel_rfl) (by kernel_rfl) (by kernel_rfl) (fun _ _ _ h => h) (Or.inr ⟨by rfl, rfl⟩) (by assumption) ?_
                     (try simp only [Act.put, List.setIfInBounds_toArray, List.set_cons_zero, List.set_cons_succ])
                     refine wpAnyH_take (i := 18) (oi := Oper.mk (some 204) _ _ _ _ _) (v := undef) rfl (by kernel_rfl) (by kernel_rfl) (by kernel_rfl) (fun _ _ _ h => h) (Or.inr ⟨by rfl, rfl⟩) (by assumption) ?_
                     (try simp only [Act.put, List.setIfInBounds_toArray, List.set_cons_zero, List.set_cons_succ])
                     refine wpAnyH_ready (rs := [19]) (by kernel_rfl) (by simp) ?_
                     refine AllReadyH.cons (o := Oper.mk (some 205) _ _ _ _ _) rfl (fun K hK => ?_) AllReadyH.nil
                     go_simp
                     clear hHeld
                     refine hK.out _ _ (by (try dsimp only); first | exact KS14.out _ (Below.refl _ _).drew | exact KS14.out _ (by assumption)) (fun hHeld => ?_)
                     clear hK K
                     (try simp only [Act.put, List.setIfInBounds_toArray, List.set_cons_zero, List.set_cons_succ])
                     refine wpAnyH_ready (rs := [20]) (by kernel_rfl) (by simp) ?_
                     refine AllReadyH.cons (o := Oper.mk (some 206) _ _ _ _ _) rfl (fun K hK => ?_) AllReadyH.nil
                     go_simp
                     clear hHeld
                     refine hK.out _ _ (by (try dsimp only); first | exact KS14.out _ (Below.refl _ _).drew | exact KS14.out _ (by assumption)) (fun hHeld => ?_)
                     clear hK K
                     (try simp only [Act.put, List.setIfInBounds_toArray, List.set_cons_zero, List.set_cons_succ])
                     refine wpAnyH_take (i := 21) (oi := Oper.mk (some 207) _ _ _ _ _) (v := undef) rfl (by kernel_rfl) (by kernel_rfl) (by kernel_rfl) (fun _ _ _ h => h) (Or.inr ⟨by rfl, rfl⟩) (by assumption) ?_
                     (try simp only [Act.put, List.setIfInBounds_toArray, List.set_cons_zero, List.set_cons_succ])
                     refine wpAnyH_take (i := 22) (oi := Oper.mk (some 208) _ _ _ _ _) (v := undef) rfl (by kernel_rfl) (by kernel_rfl) (by kernel_rfl) (fun _ _ _ h => h) (Or.inr ⟨by rfl, rfl⟩) (by assumption) ?_
                     (try simp only [Act.put, List.setIfInBounds_toArray, List.set_cons_zero, List.set_cons_succ])
                     refine wpAnyH_take (i := 23) (oi := Oper.mk (some 209) _ _ _ _ _) (v := undef) rfl (by kernel_rfl) (by kernel_rfl) (by kernel_rfl) (fun _ _ _ h => h) (Or.inr ⟨by rfl, rfl⟩) (by assumption) ?_
                     (try simp only [Act.put, List.setIfInBounds_toArray, List.set_cons_zero, List.set_cons_succ])
                     refine wpAnyH_take (i := 24) (oi := Oper.mk (some 210) _ _ _ _ _) (v := undef) rfl (by kernel_rfl) (by kernel_rfl) (by kernel_rfl) (fun _ _ _ h => h) (Or.inr ⟨by rfl, rfl⟩) (by assumption) ?_
                     (try simp only [Act.put, List.setIfInBounds_toArray, List.set_cons_zero, List.set_cons_succ])
                     refine wpAnyH_take (i := 26) (oi := Oper.mk (some 212) _ _ _ _ _) (v := undef) rfl (by kernel_rfl) (by kernel_rfl) (by kernel_rfl) (fun _ _ _ h => h) (Or.inr ⟨by rfl, rfl⟩) (by assumption) ?_
                     (try simp only [Act.put, List.setIfInBounds_toArray, List.set_cons_zero, List.set_cons_succ])
                     refine wpAnyH_ready (rs := [25]) (by kernel_rfl) (by simp) ?_
                     refine AllReadyH.cons (o := Oper.mk (some 211) _ _ _ _ _) rfl (fun K hK => ?_) AllReadyH.nil
                     go_simp
                     clear hHeld
                     refine hK.out _ _ (by (try dsimp only); first | exact KS14.out _ (Below.refl _ _).drew | exact KS14.out _ (by assumption)) (fun hHeld => ?_)
                     clear hK K
                     (try simp only [Act.put, List.setIfInBounds_toArray, List.set_cons_zero, List.set_cons_succ])
                     refine wpAnyH_ready (rs := [27]) (by kernel_rfl) (by simp) ?_
                     refine AllReadyH.cons (o := Oper.mk (some 213) _ _ _ _ _) rfl (fun K hK => ?_) AllReadyH.nil
                     go_simp
                     clear hHeld
                     refine hK.out _ _ (by (try dsimp only); first | exact KS14.out _ (Below.refl _ _).drew | exact KS14.out _ (by assumption)) (fun hHeld => ?_)
                     clear hK K
                     (try simp only [Act.put, List.setIfInBounds_toArray, List.set_cons_zero, List.set_cons_succ])
                     refine wpAnyH_take (i := 28) (oi := Oper.mk (some 214) _ _ _ _ _) (v := undef) rfl (by kernel_rfl) (by kernel_rfl) (by kernel_rfl) (fun _ _ _ h => h) (Or.inr ⟨by rfl, rfl⟩) (by assumption) ?_
                     (try simp only [Act.put, List.setIfInBounds_toArray, List.set_cons_zero, List.set_cons_succ])
                     refine wpAnyH_take (i := 29) (oi := Oper.mk (some 215) _ _ _ _ _) (v := undef) rfl (by kernel_rfl) (by kernel_rfl) (by kernel_rfl) (fun _ _ _ h => h) (Or.inr ⟨by rfl, rfl⟩) (by assumption) ?_
                     (try simp only [Act.put, List.setIfInBounds_toArray, List.set_cons_zero, List.set_cons_succ])
                     refine wpAnyH_take (i := 30) (oi := Oper.mk (some 216) _ _ _ _ _) (v := ?_) rfl (by kernel_rfl) (by kernel_rfl) (by kernel_rfl) (fun _ _ _ h => h) (Or.inl ⟨by rfl, ?_⟩) (by assumption) ?_
                     rotate_left
                     ·
                      (intro w hSw; (try dsimp only at hSw); go_simp <;> (try with_reducible rfl))
                     (try simp only [Act.put, List.setIfInBounds_toArray, List.set_cons_zero, List.set_cons_succ])
                     refine wpAnyH_take (i := 31) (oi := Oper.mk (some 217) _ _ _ _ _) (v := ?_) rfl (by kernel_rfl) (by kernel_rfl) (by kernel_rfl) (fun _ _ _ h => h) (Or.inl ⟨by rfl, ?_⟩) (by assumption) ?_
                     rotate_left
                     ·
                      (intro w hSw; (try dsimp only at hSw); go_simp <;> (try with_reducible rfl))
                     (try simp only [Act.put, List.setIfInBounds_toArray, List.set_cons_zero, List.set_cons_succ])
                     refine wpAnyH_done (by kernel_rfl) ?_ _
                     refine NoPanic.normal ?_
                     go_wp2
                     go_meet
                     exact ⟨rfl, hbF3⟩
                  case rest => as_aux_lemma =>
                   obtain ⟨rfl, hbZ⟩ := hcut
                   go_wp2
                   go_roundw
                   case rel => exact ⟨k + 1, by omega, by omega, by go_num, bnext HB14.out hbZ⟩
                   case measure => simp [intOf]; omega
    ·
     as_aux_lemma =>
     have HH2 : Hid (((decide ((8 : Int) < (lc : Int)) || decide ((8 : Int) < (lr : Int))) || (decide ((8 : Int) < (ld : Int)) || decide ((8 : Int) < (lt : Int)))) = true) := hhw
     clear hhw
     go_wp2_with (first
       | (go_at_call 9; have _t := hb1; refine (heavyR_any nc nd co so do1 do2 lc cc lr cr ld cd lt ct M _ true HH2.out).mono ?_; rintro e w2 ⟨rfl, hb2'⟩; have hb2 := bnext hb1 hb2'; clear hb2'; clear j0 j1 j2 j3 j4 j5 j6; obtain ⟨pa0, pa1, pa2⟩ := hT.a.later hb2 (by omega); obtain ⟨pb0, pb1, pb2⟩ := hT.b.later hb2 (by omega); obtain ⟨pc0, pc1, pc2⟩ := hT.c.later hb2 (by omega))
       | (go_at_call 9; refine (heavyR_any na nb ao po bo qo la ca lp cp lb cb lq cq N _ false HH.out).mono ?_; rintro e w1 ⟨rfl, hb1⟩; clear h0 h1 h2 h3 h4 h5 h6; obtain ⟨j0, j1, j2, j3, j4, j5, j6⟩ := HJ.out.later hb1 hbr2))
     go_ret
     exact ⟨rfl, bnext hbW hb2⟩
   ·
    as_aux_lemma =>
    have HH : Hid (((decide ((8 : Int) < (la : Int)) || decide ((8 : Int) < (lp : Int))) || (decide ((8 : Int) < (lb : Int)) || decide ((8 : Int) < (lq : Int)))) = true) := hhv
    clear hhv
    go_wp2_with (go_at_call 9; refine (heavyR_any na nb ao po bo qo la ca lp cp lb cb lq cq N _ true HH.out).mono ?_; rintro e w1 ⟨rfl, hb1⟩; clear h0 h1 h2 h3 h4 h5 h6; obtain ⟨j0, j1, j2, j3, j4, j5, j6⟩ := HJ.out.later hb1 hbr2)
    go_ret
    exact ⟨rfl, bnext hbW hb1⟩
  ·
   have hwk : ∀ X, Below w.heap.size w X → Calls Tryz.prog 23 #[] X fun e w' => e = .returned (.bool true) ∧ Below X.heap.size X w' := fun X h => wakes2_any X (tab_later HT.out.1 h) (HT.out.2.later h)
   have hend : ¬ k + 1 < len ∨ k = 30 := by omega
   clear hlt
   rcases hend with he | he
   ·
    as_aux_lemma =>
    go_wp2_with (go_at_call 23; refine (hwk _ hbel).mono ?_; rintro e w9 ⟨rfl, hb9⟩)
    go_ret
    exact ⟨rfl, bnext hbel hb9⟩
   ·
    subst he
    by_cases hq : 30 + 1 < len
    ·
     as_aux_lemma =>
     go_wp2_with (go_at_call 23; refine (hwk _ hbel).mono ?_; rintro e w9 ⟨rfl, hb9⟩)
     go_ret
     exact ⟨rfl, bnext hbel hb9⟩
    ·
     as_aux_lemma =>
     go_wp2_with (go_at_call 23; refine (hwk _ hbel).mono ?_; rintro e w9 ⟨rfl, hb9⟩)
     go_ret
     exact ⟨rfl, bnext hbel hb9⟩
end Go.Proofs.YtljmbnbilmghhaaGreatDoor
