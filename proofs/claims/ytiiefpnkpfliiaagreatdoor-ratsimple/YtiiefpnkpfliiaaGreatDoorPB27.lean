/-
  RatSimple: the walk. (gen/rsimp.py)
-/
import Derived.Test.YtiiefpnkpfliiaaGreatDoorPB26
import Derived.Deep.DeepCutAuto
namespace Go.Proofs.YtiiefpnkpfliiaaGreatDoor
open Go.RowKit
set_option linter.unusedVariables false
set_option linter.unusedSimpArgs false
theorem num2_bel (n : Int) (w : World) : Calls Tryz.prog 9 #[.int .i64 n] w fun e w' => e = .returned (.int .i64 n) ∧ Below w.heap.size w w' :=
  (num2_any n w).mono fun e w' ⟨h1, h2⟩ => ⟨h1, by rw [h2]; exact Below.refl _ _⟩
theorem hid_of {p : Prop} (h : p) : Hid p := h
theorem SimpP.within {a b x : Rat} (h : LeQ a b) (h0 : 0 < a.num) (hx : SimpP a b x) : LeQ a x ∧ LeQ x b := by
  obtain ⟨h1, h2⟩ := h.pos h0
  obtain ⟨px, m, sx⟩ := hx
  obtain ⟨e1, e2⟩ := sx.within a.den_pos b.den_pos h2
  have a1 : ((a.num.natAbs : Nat) : Int) = a.num := by omega
  have a2 : ((b.num.natAbs : Nat) : Int) = b.num := by omega
  have a3 : ((x.num.natAbs : Nat) : Int) = x.num := by omega
  unfold LeQ
  rw [← a1, ← a2, ← a3, ← Int.natCast_mul, ← Int.natCast_mul, ← Int.natCast_mul, ← Int.natCast_mul]
  exact ⟨Int.ofNat_le.2 e1, Int.ofNat_le.2 e2⟩
theorem SimpP.least {a b x y : Rat} (h : LeQ a b) (h0 : 0 < a.num) (hx : SimpP a b x) (h1 : LeQ a y) (h2 : LeQ y b) : x.den ≤ y.den ∧ x.num.natAbs ≤ y.num.natAbs := by
  obtain ⟨p1, p2⟩ := h.pos h0
  obtain ⟨p3, p4⟩ := h1.pos h0
  obtain ⟨p5, p6⟩ := h2.pos p3
  obtain ⟨px, m, sx⟩ := hx
  exact (sx.least a.den_pos b.den_pos p2 y.num.natAbs y.den y.den_pos p4 p6).symm
theorem LeQ.of_neg {a b : Rat} (h : LeQ (-b) (-a)) : LeQ a b := by have := h.neg; rwa [Rat.neg_neg, Rat.neg_neg] at this
theorem SimpQ.within {a b x : Rat} (h : LeQ a b) (hx : SimpQ a b x) : LeQ a x ∧ LeQ x b := by
  rcases hx with ⟨h0, hx⟩ | ⟨h0, hx⟩ | ⟨h0, h1, rfl⟩
  · exact hx.within h h0
  · obtain ⟨e1, e2⟩ := hx.within h.neg (by rw [Rat.neg_num]; omega)
    exact ⟨e2.of_neg, e1.of_neg⟩
  · unfold LeQ
    exact ⟨by show a.num * 1 ≤ 0 * _; omega, by show 0 * _ ≤ b.num * 1; omega⟩
theorem SimpQ.least {a b x y : Rat} (h : LeQ a b) (hx : SimpQ a b x) (h1 : LeQ a y) (h2 : LeQ y b) : x.den ≤ y.den ∧ x.num.natAbs ≤ y.num.natAbs := by
  rcases hx with ⟨h0, hx⟩ | ⟨h0, hx⟩ | ⟨h0, h3, rfl⟩
  · exact hx.least h h0 h1 h2
  · have := hx.least h.neg (by rw [Rat.neg_num]; omega) h2.neg h1.neg
    rwa [Rat.neg_den, Rat.neg_den, Rat.neg_num, Rat.neg_num, Int.natAbs_neg, Int.natAbs_neg] at this
  · exact ⟨y.den_pos, Nat.zero_le _⟩
theorem cmpQ_le {a b : Rat} (h : LeQ a b) : cmpQ a b = -1 ∨ cmpQ a b = 0 := by
  rcases cmpI_vals (a.num * (b.den : Int)) (b.num * (a.den : Int)) with e | e | e
  · exact Or.inl e
  · exact Or.inr e
  · exfalso; unfold LeQ at h; unfold cmpI at e; split at e; omega; split at e; omega; omega
theorem cmpQ_nle {a b : Rat} (h : ¬ LeQ a b) : cmpQ a b = 1 := by
  unfold LeQ at h
  show cmpI _ _ = 1
  unfold cmpI
  rw [if_neg (by omega), if_pos (by omega)]
theorem abs_ge {x y : Rat} (h1 : y.den = x.den) (h2 : x.num.natAbs ≤ y.num.natAbs) : cmpQ (absR y) (absR x) = 0 ∨ cmpQ (absR y) (absR x) = 1 := by
  have h3 : ((x.num.natAbs : Nat) : Int) * (y.den : Int) ≤ ((y.num.natAbs : Nat) : Int) * (x.den : Int) := by
    rw [h1]; exact Int.mul_le_mul_of_nonneg_right (Int.ofNat_le.2 h2) (by omega)
  rcases cmpI_vals ((absR y).num * ((absR x).den : Int)) ((absR x).num * ((absR y).den : Int)) with e | e | e
  · exfalso
    have e' : cmpI (((y.num.natAbs : Nat) : Int) * (x.den : Int)) (((x.num.natAbs : Nat) : Int) * (y.den : Int)) = -1 := e
    unfold cmpI at e'; split at e'; omega; split at e'; omega; omega
  · exact Or.inl e
  · exact Or.inr e
theorem sz_abs {a : Rat} {k : Nat} (h : Sz a k) : Sz (absR a) k := ⟨by rw [absR_num, Int.natAbs_natCast]; exact h.1, h.2⟩
/-- a number in a variable that was made behind U, and that may be written -/
def JVar (U wx : World) (r : Nat) (v : Int) : Prop := ∃ n o l c, Boxed wx r n o l c ∧ IntAt wx n o l c v ∧ (∀ j, wx.frozen? ⟨r, j, none⟩ = false) ∧ U.heap.size ≤ r ∧ Below U.heap.size U wx
theorem jv_a {U y : World} {n : Bool} {o : Option Addr} {l c : Nat} {v : Int} (h : Hid (IntAt y n o l c v)) (hb : Below U.heap.size U y) : JVar U (y.alloc (.cells #[.bool n, .slice o l c] 26)) y.heap.size v :=
  ⟨n, o, l, c, ⟨by simp [go_sem], by simp [go_sem]⟩, int_alloc h.out, fun j => by simp [go_sem], hb.size, below_alloc hb (Nat.le_refl _)⟩
theorem jv_c {U y : World} {n n' : Bool} {o o' : Option Addr} {l c l' c' r : Nat} {v : Int} (h : Hid (IntAt y n o l c v)) (hb : Below U.heap.size U y) (h1 : ∀ j, y.frozen? ⟨r, j, none⟩ = false) (h2 : y.cell? ⟨r, 0, none⟩ = some (.bool n')) (h3 : y.cell? ⟨r, 1, none⟩ = some (.slice o' l' c')) (hr : U.heap.size ≤ r) : JVar U ((y.setCell ⟨r, 0, none⟩ (.bool n)).setCell ⟨r, 1, none⟩ (.slice o l c)) r v :=
  ⟨n, o, l, c, boxed_new ⟨h2, h3⟩, ⟨h.out.sg, h.out.row.boxed ⟨h2, h3⟩ _ _⟩, fun j => by rw [frozen_off, frozen_off]; exact h1 j, hr, below_store hb hr _ _⟩
theorem mag_small {d : Nat} (h0 : 0 < d) (h : d ≤ 60) : mag d = [(d : Int)] := by
  have h1 : (mag d).length = 1 := by
    have h2 : 0 < (mag d).length := mag_len_pos.2 h0
    have h3 := mag_len_mono h
    have h4 : (mag 60).length = 1 := by decide
    omega
  have h5 := one_limb h1
  match hm : mag d, h1 with
  | [z], _ => rw [hm] at h5; simp [dig] at h5; rw [h5]
theorem den_cell {w : World} {ao : Option Addr} {c n D : Nat} (h : RowAt w .u64 ao 1 c (mag n)) (hD : n = D) (h1 : 1 = (mag n).length) : ∃ bx ox, ao = some ⟨bx, ox, none⟩ ∧ bx < w.heap.size ∧ w.cell? ⟨bx, ox, none⟩ = some (.int .u64 (D : Int)) := by
  rcases h.hat with h0 | ⟨b, off, e, hlt, hc⟩
  · omega
  · refine ⟨b, off, e, hlt, ?_⟩
    have h2 := hc 0 (by omega)
    rw [one_limb h1.symm, hD] at h2
    exact h2
set_option maxRecDepth 100000 in
set_option maxHeartbeats 40000000 in
theorem ratSimple_any (lo : Option Addr) (len cap : Nat) (w : World) (hE : ElemsR w lo len) (hl : len ≤ 9223372036854775807) (hT0 : TabAt 0 Lib.deBruijn64tab w) (hP0 : Pow10 w) :
    Calls Tryz.prog 5 #[.slice lo len cap] w fun e w' => e = .returned (.bool true) ∧ Below w.heap.size w w' := by
 have HT : Hid (TabAt 0 Lib.deBruijn64tab w ∧ Pow10 w) := ⟨hT0, hP0⟩
 clear hT0 hP0
 go_enter Tryz.func5, Tryz.ntmps5
 go_wp2
 go_loopw [3] (fun i wr => ∃ k : Nat, k ≤ len ∧ k ≤ 30 ∧ i = .int .i64 k ∧ Below w.heap.size w wr) (fun i _ => 30 - (intOf i).toNat)
 case atStart => exact ⟨0, Nat.zero_le _, by omega, rfl, Below.refl _ _⟩
 case round =>
  obtain ⟨k, hk, hk30, rfl, hbel⟩ := hrel
  by_cases hlt : k < len ∧ k < 30
  ·
   obtain ⟨hlt, hlt30⟩ := hlt
   obtain ⟨b, off, rfl, hbw, hel⟩ := hE k hlt
   obtain ⟨na, nb, ao, po, bo, qo, la, ca, lp, cp, lb, cb, lq, cq, N, x, d, y, f, ⟨h0, h1, h2, h3, h4, h5, h6⟩, r1, v1, r2, v2, r3, v3, r4, v4, hn1, hn2⟩ := hel.later hbel hbw
   obtain ⟨W, hT⟩ := InR.mk' wr na nb ao po bo qo la ca lp cp lb cb lq cq N
   have hsz := hT.size
   have hbW : Below w.heap.size w W := bnext hbel hT.below
   have HX : Hid (RowAt W .u64 ao la ca x ∧ RowAt W .u64 po lp cp d ∧ RowAt W .u64 bo lb cb y ∧ RowAt W .u64 qo lq cq f) := ⟨r1.later hT.below, r2.later hT.below, r3.later hT.below, r4.later hT.below⟩
   have HWd : Hid (Wd 18446744073709551616 x ∧ Wd 18446744073709551616 d ∧ Wd 18446744073709551616 y ∧ Wd 18446744073709551616 f) := ⟨v1, v2, v3, v4⟩
   have HTW : Hid (TabAt 0 Lib.deBruijn64tab W ∧ Below w.heap.size w W) := ⟨tab_later HT.out.1 hbW, hbW⟩
   clear r1 r2 r3 r4 v1 v2 v3 v4 hel
   go_upto_region 5 with fail
   rw [← hT.eq]
   clear h0 h1 h2 h3 h4 h5 h6
   have HP0 : Hid (Boxed7 W wr.heap.size na nb ao po bo qo la ca lp cp lb cb lq cq N) := hT.p
   obtain ⟨q0, q1, q2, q3, q4, q5, q6⟩ := hT.p
   have hpW : wr.heap.size < W.heap.size := by omega
   obtain ⟨rP, hrP⟩ : ∃ r, wr.heap.size = r := ⟨_, rfl⟩
   rw [hrP] at hpW HP0 q0 q1 q2 q3 q4 q5 q6
   rw [hrP]
   clear hrP hT hsz hbW hbw
   cases hhv : ((decide ((8 : Int) < (la : Int)) || decide ((8 : Int) < (lp : Int))) || (decide ((8 : Int) < (lb : Int)) || decide ((8 : Int) < (lq : Int))))
   ·
    have HH : Hid (((decide ((8 : Int) < (la : Int)) || decide ((8 : Int) < (lp : Int))) || (decide ((8 : Int) < (lb : Int)) || decide ((8 : Int) < (lq : Int)))) = false) := hhv
    have hla : la ≤ 8 := by simp at hhv; omega
    have hlp : lp ≤ 8 := by simp at hhv; omega
    have hlb : lb ≤ 8 := by simp at hhv; omega
    have hlq : lq ≤ 8 := by simp at hhv; omega
    clear hhv
    cases hm : (mayR na x d && mayR nb y f)
    ·
     have HM2 : Hid ((if mayR na x d && mayR nb y f then 0 else 20 : Int) = 20) := (by show _ = _; rw [hm]; rfl)
     clear hm
     go_wp2_with (first
       | (go_at_call 27; refine (two2_any na nb ao po bo qo la ca lp cp lb cb lq cq N x d y f _ (HX.out.1.later hb1) HWd.out.1 (HX.out.2.1.later hb1) HWd.out.2.1 (HX.out.2.2.1.later hb1) HWd.out.2.2.1 (HX.out.2.2.2.later hb1) HWd.out.2.2.2 (by omega) (by omega) (by omega) (by omega) 20 HM2.out).mono ?_; rintro e w2 ⟨rfl, hb2'⟩; have hb2 := bnext hb1 hb2'; clear hb2'; clear q0 q1 q2 q3 q4 q5 q6; obtain ⟨q0, q1, q2, q3, q4, q5, q6⟩ := HP0.out.later hb2 hpW)
       | (go_at_call 6; refine (heavyR_any na nb ao po bo qo la ca lp cp lb cb lq cq N _ false HH.out).mono ?_; rintro e w1 ⟨rfl, hb1⟩; clear q0 q1 q2 q3 q4 q5 q6; obtain ⟨q0, q1, q2, q3, q4, q5, q6⟩ := HP0.out.later hb1 hpW))
     go_roundw
     case rel => first | exact ⟨k + 1, by omega, by omega, by go_num, bnext HTW.out.2 hb2⟩ | ((repeat apply Exists.intro); exact ⟨⟨k + 1, by omega, by omega, by go_num, bnext HTW.out.2 hb2⟩, rfl⟩)
     case measure => simp [intOf]; omega
    ·
     have HM2 : Hid ((if mayR na x d && mayR nb y f then 0 else 20 : Int) = 0) := (by show _ = _; rw [hm]; rfl)
     obtain ⟨hma, hmb⟩ : mayR na x d = true ∧ mayR nb y f = true := by simpa using hm
     obtain ⟨va, hIa, _, _⟩ := rat_of_may HX.out.1 HWd.out.1 HX.out.2.1 HWd.out.2.1 hma
     obtain ⟨vb, hIb, _, _⟩ := rat_of_may HX.out.2.2.1 HWd.out.2.2.1 HX.out.2.2.2 HWd.out.2.2.2 hmb
     have HA : Hid (RatAt W na ao la ca po lp cp va ∧ RatAt W nb bo lb cb qo lq cq vb ∧ Sz va 8 ∧ Sz vb 8) := ⟨hIa, hIb, ⟨by rw [← hIa.num.row.hlen]; exact hla, by rw [← hIa.den.hlen]; exact hlp⟩, ⟨by rw [← hIb.num.row.hlen]; exact hlb, by rw [← hIb.den.hlen]; exact hlq⟩⟩
     clear hm hma hmb hIa hIb
     by_cases hle : LeQ va vb
     ·
      obtain ⟨c, hc⟩ : ∃ c, cmpQ va vb = c := ⟨_, rfl⟩
      have hc2 := cmpQ_le hle
      rw [hc] at hc2
      have HC : Hid (cmpQ va vb = c) := hc
      have HLE : Hid (LeQ va vb) := hle
      clear hc hle
      go_upto_region 7 with (go_at_call 6; refine (heavyR_any na nb ao po bo qo la ca lp cp lb cb lq cq N _ false HH.out).mono ?_; rintro e w1 ⟨rfl, hb1⟩; clear q0 q1 q2 q3 q4 q5 q6; obtain ⟨q0, q1, q2, q3, q4, q5, q6⟩ := HP0.out.later hb1 hpW)
      go_cut [38] (fun s38 wx => s38 = .bool false ∧ Below W.heap.size W wx)
      case first =>
       rcases hc2 with rfl | rfl
       all_goals
        go_wp2_with (first
         | (go_at_call 28; refine (qcmp_any na nb ao po bo qo la ca lp cp lb cb lq cq va vb _ (HA.out.1.later hb2) (HA.out.2.1.later hb2) (HA.out.2.2.1.mono (by decide)) (HA.out.2.2.2.mono (by decide)) _ HC.out).mono ?_; rintro e w3 ⟨rfl, hb3'⟩; have hb3 := bnext hb2 hb3'; clear hb3' q0 q1 q2 q3 q4 q5 q6)
         | (go_at_call 27; refine (two2_any na nb ao po bo qo la ca lp cp lb cb lq cq N x d y f _ (HX.out.1.later hb1) HWd.out.1 (HX.out.2.1.later hb1) HWd.out.2.1 (HX.out.2.2.1.later hb1) HWd.out.2.2.1 (HX.out.2.2.2.later hb1) HWd.out.2.2.2 (by omega) (by omega) (by omega) (by omega) 0 HM2.out).mono ?_; rintro e w2 ⟨rfl, hb2'⟩; have hb2 := bnext hb1 hb2'; clear hb2'; clear q0 q1 q2 q3 q4 q5 q6; obtain ⟨q0, q1, q2, q3, q4, q5, q6⟩ := HP0.out.later hb2 hpW))
        go_meet
        exact ⟨rfl, hb3⟩
      case rest =>
       obtain ⟨rfl, hbU⟩ := hcut
       obtain ⟨Z, hZ⟩ : ∃ Z, Z = wc := ⟨_, rfl⟩
       rw [← hZ] at hbU
       rw [← hZ]
       clear hZ
       obtain ⟨vx, hvx⟩ := SimpQ.ex HLE.out
       have HV : Hid (SimpQ va vb vx ∧ Sz vx 8) := ⟨hvx, hvx.size HLE.out HA.out.2.2.1 HA.out.2.2.2 (by decide)⟩
       have HB : Hid (Below W.heap.size W Z) := hbU
       clear hvx hbU hb1 q0 q1 q2 q3 q4 q5 q6 hc2 HH HX HWd HM2
       obtain ⟨q0, q1, q2, q3, q4, q5, q6⟩ := HP0.out.later HB.out hpW
       go_upto_region 8 with fail
       go_cut [5, 6] (fun s5 s6 wx => ∃ r, s5 = .pointer (some ⟨r, 0, none⟩) ∧ s6 = .int .i64 0 ∧ NVar W wx r vx)
       case first =>
        go_wp2_with (go_at_call 41; refine (simple_rat na nb ao po bo qo la ca lp cp lb cb lq cq va vb vx _ (HA.out.1.later HB.out) (HA.out.2.1.later HB.out) (HA.out.2.2.1.mono (by decide)) (HA.out.2.2.2.mono (by decide)) (tab_later HTW.out.1 HB.out) HLE.out HV.out.1).mono ?_; rintro e y ⟨n5, o5, l5, c5, p5, m5, k5, rfl, hs, ho, hp, _, hb⟩; have HY : Hid (RatAt y n5 o5 l5 c5 p5 m5 k5 vx) := ⟨ho.int hs, hp.row⟩; have HY2 : Hid (Below W.heap.size W y) := bnext HB.out hb; clear hs ho hp hb)
        go_meet
        exact ⟨_, rfl, rfl, nvr_a HY HY2.out⟩
       case rest =>
        obtain ⟨r5, rfl, rfl, n5, o5, l5, c5, p5, m5, k5, hv5, hr5, hbU⟩ := hcut
        obtain ⟨Y, hY⟩ : ∃ Z, Z = wc := ⟨_, rfl⟩
        rw [← hY] at hv5 hbU
        rw [← hY]
        clear hY
        have HX5 : Hid (RVar Y r5 n5 o5 l5 c5 p5 m5 k5 vx ∧ Below W.heap.size W Y) := ⟨hv5, hbU⟩
        clear hv5 hbU HB q0 q1 q2 q3 q4 q5 q6
        obtain ⟨hw1, hw2⟩ := HV.out.1.within HLE.out
        obtain ⟨c1, hc1⟩ : ∃ c, cmpQ va vx = c := ⟨_, rfl⟩
        obtain ⟨c2, hc2⟩ : ∃ c, cmpQ vx vb = c := ⟨_, rfl⟩
        have hcc1 := cmpQ_le hw1
        have hcc2 := cmpQ_le hw2
        rw [hc1] at hcc1
        rw [hc2] at hcc2
        have HC12 : Hid (cmpQ va vx = c1 ∧ cmpQ vx vb = c2) := ⟨hc1, hc2⟩
        clear hw1 hw2 hc1 hc2
        go_upto_region 9 with fail
        go_cut [63] (fun s63 wx => s63 = .bool false ∧ Below W.heap.size W wx ∧ Below Y.heap.size Y wx)
        case first =>
         obtain ⟨q0, q1, q2, q3, q4, q5, q6⟩ := HP0.out.later HX5.out.2 hpW
         obtain ⟨x0, x1, x2⟩ := HX5.out.1.box
         rcases hcc1 with rfl | rfl <;> rcases hcc2 with rfl | rfl
         all_goals
          go_wp2_with (first
           | (go_at_call 30; have _t := hy2; refine (cmp_rat n5 nb o5 p5 bo qo l5 c5 m5 k5 lb cb lq cq vx vb _ (HX5.out.1.rat.later hy2) ((HA.out.2.1.later HX5.out.2).later hy2) (HV.out.2.mono (by decide)) (HA.out.2.2.2.mono (by decide)) (tab_later HTW.out.1 (bnext HX5.out.2 hy2)) _ HC12.out.2).mono ?_; rintro e y3 ⟨rfl, hy3'⟩; have hy3 := bnext hy2 hy3'; clear hy3')
           | (go_at_call 30; refine (cmp_rat na n5 ao po o5 p5 la ca lp cp l5 c5 m5 k5 va vx _ ((HA.out.1.later HX5.out.2).later hy1) (HX5.out.1.rat.later hy1) (HA.out.2.2.1.mono (by decide)) (HV.out.2.mono (by decide)) (tab_later HTW.out.1 (bnext HX5.out.2 hy1)) _ HC12.out.1).mono ?_; rintro e y2 ⟨rfl, hy2'⟩; have hy2 := bnext hy1 hy2'; clear hy2' q0 q1 q2 q3 q4 q5 q6 x0 x1 x2; obtain ⟨q0, q1, q2, q3, q4, q5, q6⟩ := HP0.out.later (bnext HX5.out.2 hy2) hpW; obtain ⟨x0, x1, x2⟩ := HX5.out.1.box.later hy2 HX5.out.1.lt)
           | (go_at_call 9; refine (num2_bel 0 _).mono ?_; rintro e y1 ⟨rfl, hy1⟩; clear q0 q1 q2 q3 q4 q5 q6 x0 x1 x2; obtain ⟨q0, q1, q2, q3, q4, q5, q6⟩ := HP0.out.later (bnext HX5.out.2 hy1) hpW; obtain ⟨x0, x1, x2⟩ := HX5.out.1.box.later hy1 HX5.out.1.lt))
          go_meet
          exact ⟨rfl, bnext HX5.out.2 hy3, hy3⟩
        case rest =>
         obtain ⟨rfl, hbU, hbY⟩ := hcut
         obtain ⟨Z2, hZ2⟩ : ∃ Z, Z = wc := ⟨_, rfl⟩
         rw [← hZ2] at hbU hbY
         rw [← hZ2]
         clear hZ2
         have HZ : Hid (RVar Z2 r5 n5 o5 l5 c5 p5 m5 k5 vx ∧ Below W.heap.size W Z2 ∧ RatAt Z2 na ao la ca po lp cp va ∧ RatAt Z2 nb bo lb cb qo lq cq vb ∧ Boxed7 Z2 rP na nb ao po bo qo la ca lp cp lb cb lq cq N) := ⟨HX5.out.1.later hbY, hbU, HA.out.1.later hbU, HA.out.2.1.later hbU, HP0.out.later hbU hpW⟩
         have hpZ : rP < Z2.heap.size := Nat.lt_of_lt_of_le hpW hbU.size
         have hm5 : m5 = (mag vx.den).length := HZ.out.1.rat.den.hlen
         have HM5 : Hid (m5 = (mag vx.den).length) := hm5
         clear hbU hbY HX5 hcc1 hcc2 HC12 HP0 HC
         obtain ⟨x0, x1, x2⟩ := HZ.out.1.box
         by_cases h51 : m5 = 1
         ·
          obtain ⟨D, hD⟩ : ∃ D, vx.den = D := ⟨_, rfl⟩
          have HD : Hid (vx.den = D ∧ 0 < D) := ⟨hD, by rw [← hD]; exact vx.den_pos⟩
          clear hm5
          subst h51
          obtain ⟨bx, ox, hox, hcx⟩ : ∃ bx ox, p5 = some ⟨bx, ox, none⟩ ∧ bx < Z2.heap.size ∧ Z2.cell? ⟨bx, ox, none⟩ = some (.int .u64 (D : Int)) := den_cell HZ.out.1.rat.den hD HM5.out
          subst hox
          have HCX : Hid (bx < Z2.heap.size ∧ Z2.cell? ⟨bx, ox, none⟩ = some (.int .u64 (D : Int))) := hcx
          clear hD
          obtain ⟨hbx, hcx⟩ := hcx
          by_cases hD60 : D ≤ 60
          ·
           have hg60 : decide ((60 : Int) < (D : Int)) = false := decide_eq_false (by omega)
           go_wp2
           clear hg60 hcx x0 x1 x2
           go_loopw [7] (fun i wo => ∃ d9 : Nat, 1 ≤ d9 ∧ d9 ≤ D + 1 ∧ i = .int .u64 (d9 : Int) ∧ Below Z2.heap.size Z2 wo) (fun i _ => D + 1 - (intOf i).toNat)
           case atStart => exact ⟨1, Nat.le_refl _, by have := HD.out.2; omega, rfl, Below.refl _ _⟩
           case round =>
            obtain ⟨d9, h19, hd9, rfl, hbL⟩ := hrel
            obtain ⟨V, hV0⟩ : ∃ Z, Z = wr := ⟨_, rfl⟩
            rw [← hV0] at hbL
            rw [← hV0]
            clear hV0
            have HL : Hid (RVar V r5 n5 o5 l5 c5 (some ⟨bx, ox, none⟩) 1 k5 vx ∧ RatAt V na ao la ca po lp cp va ∧ RatAt V nb bo lb cb qo lq cq vb ∧ Boxed7 V rP na nb ao po bo qo la ca lp cp lb cb lq cq N ∧ V.cell? ⟨bx, ox, none⟩ = some (.int .u64 (D : Int)) ∧ Below Z2.heap.size Z2 V) := ⟨HZ.out.1.later hbL, HZ.out.2.2.1.later hbL, HZ.out.2.2.2.1.later hbL, HZ.out.2.2.2.2.later hbL hpZ, (hbL.cell (p := ⟨bx, ox, none⟩) HCX.out.1).trans HCX.out.2, hbL⟩
            have hpV : rP < V.heap.size := Nat.lt_of_lt_of_le hpZ hbL.size
            have hbxV : bx < V.heap.size := Nat.lt_of_lt_of_le HCX.out.1 hbL.size
            clear hbL
            obtain ⟨x0, x1, x2⟩ := HL.out.1.box
            have hcx := HL.out.2.2.2.2.1
            by_cases hdD : d9 ≤ D
            ·
             have hg9 : decide ((d9 : Int) ≤ (D : Int)) = true := decide_eq_true (by omega)
             go_upto_region 15 with fail
             clear hg9
             have hwr : IntKind.i64.wrap ((d9 : Nat) : Int) = (d9 : Int) := by have h60 : (d9 : Int) ≤ 60 := (by omega); have h0 : (0 : Int) ≤ (d9 : Int) := (by omega); generalize (d9 : Int) = z at h60 h0; unfold IntKind.wrap; simp [IntKind.bits, IntKind.signed]; omega
             obtain ⟨N0, hN0⟩ : ∃ N0 : Int, (va * ((d9 : Int) : Rat)).num / ((va * ((d9 : Int) : Rat)).den : Int) = N0 := ⟨_, rfl⟩
             have HSd : Hid (Sz ((d9 : Int) : Rat) 1 ∧ Sz (va * ((d9 : Int) : Rat)) 9 ∧ (mag N0.natAbs).length ≤ 20) := (by
              have h1 : Sz ((d9 : Int) : Rat) 1 := isz (v := (d9 : Int)) (by rw [Int.natAbs_natCast, mag_small (by omega) (by omega)]; exact Nat.le_refl _) (Nat.le_refl _)
              have h2 := HA.out.2.2.1.mul h1
              refine ⟨h1, h2, ?_⟩
              have h3 := floor_len (va * ((d9 : Int) : Rat))
              have h4 := h2.1
              rw [← hN0]; omega)
             have HN0 : Hid ((va * ((d9 : Int) : Rat)).num / ((va * ((d9 : Int) : Rat)).den : Int) = N0) := hN0
             clear hN0 x0 x1 x2 hcx
             have K7 : Hid (∀ w' : World, Below V.heap.size V w' → w'.cell? ⟨rP, 0, none⟩ = some (.bool na) ∧ w'.cell? ⟨rP, 1, none⟩ = some (.slice ao la ca) ∧ w'.cell? ⟨rP, 2, none⟩ = some (.slice po lp cp) ∧ w'.cell? ⟨rP, 3, none⟩ = some (.bool nb) ∧ w'.cell? ⟨rP, 4, none⟩ = some (.slice bo lb cb) ∧ w'.cell? ⟨rP, 5, none⟩ = some (.slice qo lq cq) ∧ w'.cell? ⟨rP, 6, none⟩ = some (.int .i64 N)) := fun w' h => HL.out.2.2.2.1.later h hpV
             go_cut [8] (fun s8 wx => ∃ r, s8 = .pointer (some ⟨r, 0, none⟩) ∧ JVar V wx r N0)
             case first =>
              refine wp_region_noPanic ?_
              refine wp_region_held_drew (S := fun w' => (w'.cell? ⟨rP, 0, none⟩ = some (.bool na) ∧ w'.cell? ⟨rP, 1, none⟩ = some (.slice ao la ca) ∧ w'.cell? ⟨rP, 2, none⟩ = some (.slice po lp cp) ∧ w'.cell? ⟨rP, 3, none⟩ = some (.bool nb) ∧ w'.cell? ⟨rP, 4, none⟩ = some (.slice bo lb cb) ∧ w'.cell? ⟨rP, 5, none⟩ = some (.slice qo lq cq) ∧ w'.cell? ⟨rP, 6, none⟩ = some (.int .i64 N))) (by kernel_rfl) (by (try dsimp only); exact K7.out _ (Below.refl _ _).drew) (fun hHeld => ?_)
              refine wpAnyH_take (i := 0) (oi := Oper.mk (some 83) _ _ _ _ _) (v := ?_) rfl (by kernel_rfl) (by kernel_rfl) (by kernel_rfl) (fun _ _ _ h => h) (Or.inl ⟨by rfl, ?_⟩) (by assumption) ?_
              rotate_left
              · (intro w hSw; (try dsimp only at hSw); go_simp <;> (try with_reducible rfl))
              (try simp only [Act.put, List.setIfInBounds_toArray, List.set_cons_zero, List.set_cons_succ])
              refine wpAnyH_take (i := 1) (oi := Oper.mk (some 84) _ _ _ _ _) (v := ?_) rfl (by kernel_rfl) (by kernel_rfl) (by kernel_rfl) (fun _ _ _ h => h) (Or.inl ⟨by rfl, ?_⟩) (by assumption) ?_
              rotate_left
              · (intro w hSw; (try dsimp only at hSw); go_simp <;> (try with_reducible rfl))
              (try simp only [Act.put, List.setIfInBounds_toArray, List.set_cons_zero, List.set_cons_succ])
              refine wpAnyH_take (i := 2) (oi := Oper.mk (some 85) _ _ _ _ _) (v := ?_) rfl (by kernel_rfl) (by kernel_rfl) (by kernel_rfl) (fun _ _ _ h => h) (Or.inl ⟨by rfl, ?_⟩) (by assumption) ?_
              rotate_left
              · (intro w hSw; (try dsimp only at hSw); go_simp <;> (try with_reducible rfl))
              (try simp only [Act.put, List.setIfInBounds_toArray, List.set_cons_zero, List.set_cons_succ])
              refine wpAnyH_take (i := 3) (oi := Oper.mk (some 86) _ _ _ _ _) (v := ?_) rfl (by kernel_rfl) (by kernel_rfl) (by kernel_rfl) (fun _ _ _ h => h) (Or.inl ⟨by rfl, ?_⟩) (by assumption) ?_
              rotate_left
              · (intro w hSw; (try dsimp only at hSw); go_simp <;> (try with_reducible rfl))
              (try simp only [Act.put, List.setIfInBounds_toArray, List.set_cons_zero, List.set_cons_succ])
              have hzU : V.heap.size ≤ V.drew.heap.size := Nat.le_refl _
              refine wpAnyH_ready (rs := [4, 7]) (by kernel_rfl) (by simp) ?_
              refine AllReadyH.cons (o := Oper.mk (some 87) _ _ _ _ _) rfl (fun K hK => ?_) ?_
              ·
               go_simp
               (go_at_call 44; refine (qint_any (d9 : Int) _ (by omega) (by omega)).mono ?_; rintro e f1 ⟨n11, o11, l11, c11, p11, m11, k11, rfl, hr, hb⟩; have H1 : Hid (RatAt f1 n11 o11 l11 c11 p11 m11 k11 ((d9 : Int) : Rat)) := hr; clear hr; have hbF1 : Below V.heap.size V f1 := bnext (Below.refl _ _).drew hb; clear hb)
               (try go_wp2_with fail)
               clear hHeld
               refine hK.out _ _ (by (try dsimp only); with_reducible (first | exact K7.out _ (Below.refl _ _).drew | exact K7.out _ (by assumption) | (refine K7.out _ ?_; (repeat (first | refine below_alloc ?_ (Nat.le_refl _) | refine Below.drew ?_ | refine below_set ?_ (by omega))); (first | exact hbF3 | exact hbF2 | exact hbF1 | exact Below.refl _ _)))) (fun hHeld => ?_)
               clear hK K
               (try simp only [Act.put, List.setIfInBounds_toArray, List.set_cons_zero, List.set_cons_succ])
               have hzF1 := hbF1.size
               refine wpAnyH_ready (rs := [5, 7]) (by kernel_rfl) (by simp) ?_
               refine AllReadyH.cons (o := Oper.mk (some 88) _ _ _ _ _) rfl (fun K hK => ?_) ?_
               ·
                go_simp
                (go_at_call 43; refine (qtimes_any na n11 ao po o11 p11 la ca lp cp l11 c11 m11 k11 va ((d9 : Int) : Rat) _ (HL.out.2.1.later hbF1) (H1.out.later (Below.refl _ _)) (HA.out.2.2.1.mono (by decide)) (HSd.out.1.mono (by decide))).mono ?_; rintro e f2 ⟨n12, o12, l12, c12, p12, m12, k12, rfl, hr, hb⟩; have H2 : Hid (RatAt f2 n12 o12 l12 c12 p12 m12 k12 (va * ((d9 : Int) : Rat))) := hr; have hl12 : l12 ≤ 9 ∧ m12 ≤ 9 := hr.len HSd.out.2.1; clear hr; have hbF2 : Below V.heap.size V f2 := bnext hbF1 hb; clear hb)
                (try go_wp2_with fail)
                clear hHeld
                refine hK.out _ _ (by (try dsimp only); with_reducible (first | exact K7.out _ (Below.refl _ _).drew | exact K7.out _ (by assumption) | (refine K7.out _ ?_; (repeat (first | refine below_alloc ?_ (Nat.le_refl _) | refine Below.drew ?_ | refine below_set ?_ (by omega))); (first | exact hbF3 | exact hbF2 | exact hbF1 | exact Below.refl _ _)))) (fun hHeld => ?_)
                clear hK K
                (try simp only [Act.put, List.setIfInBounds_toArray, List.set_cons_zero, List.set_cons_succ])
                have hzF2 := hbF2.size
                refine wpAnyH_ready (rs := [6, 7]) (by kernel_rfl) (by simp) ?_
                refine AllReadyH.cons (o := Oper.mk (some 89) _ _ _ _ _) rfl (fun K hK => ?_) ?_
                ·
                 go_simp
                 (go_at_call 24; refine (qfloor_any n12 o12 p12 l12 c12 m12 k12 (va * ((d9 : Int) : Rat)) _ (H2.out.later (Below.refl _ _)) (by omega) (by omega)).mono ?_; rintro e f3 ⟨n13, o13, l13, c13, rfl, hi, hb⟩; rw [HN0.out] at hi; have H3 : Hid (IntAt f3 n13 o13 l13 c13 N0) := hi; clear hi; have hbF3 : Below V.heap.size V f3 := bnext hbF2 hb; clear hb)
                 (try go_wp2_with fail)
                 clear hHeld
                 refine hK.out _ _ (by (try dsimp only); with_reducible (first | exact K7.out _ (Below.refl _ _).drew | exact K7.out _ (by assumption) | (refine K7.out _ ?_; (repeat (first | refine below_alloc ?_ (Nat.le_refl _) | refine Below.drew ?_ | refine below_set ?_ (by omega))); (first | exact hbF3 | exact hbF2 | exact hbF1 | exact Below.refl _ _)))) (fun hHeld => ?_)
                 clear hK K
                 (try simp only [Act.put, List.setIfInBounds_toArray, List.set_cons_zero, List.set_cons_succ])
                 have hzF3 := hbF3.size
                 refine wpAnyH_ready (rs := [7]) (by kernel_rfl) (by simp) ?_
                 refine AllReadyH.cons (o := Oper.mk (some 8) _ _ _ _ _) rfl (fun K hK => ?_) ?_
                 ·
                  go_simp
                  clear hHeld
                  refine hK.out _ _ (by (try dsimp only); with_reducible (first | exact K7.out _ (Below.refl _ _).drew | exact K7.out _ (by assumption) | (refine K7.out _ ?_; (repeat (first | refine below_alloc ?_ (Nat.le_refl _) | refine Below.drew ?_ | refine below_set ?_ (by omega))); (first | exact hbF3 | exact hbF2 | exact hbF1 | exact Below.refl _ _)))) (fun hHeld => ?_)
                  clear hK K
                  (try simp only [Act.put, List.setIfInBounds_toArray, List.set_cons_zero, List.set_cons_succ])
                  refine wpAnyH_ready (rs := [8]) (by kernel_rfl) (by simp) ?_
                  refine AllReadyH.cons (o := Oper.mk none _ _ _ _ _) rfl (fun K hK => ?_) AllReadyH.nil
                  go_simp
                  clear hHeld
                  refine hK.out _ _ (by (try dsimp only); with_reducible (first | exact K7.out _ (Below.refl _ _).drew | exact K7.out _ (by assumption) | (refine K7.out _ ?_; (repeat (first | refine below_alloc ?_ (Nat.le_refl _) | refine Below.drew ?_ | refine below_set ?_ (by omega))); (first | exact hbF3 | exact hbF2 | exact hbF1 | exact Below.refl _ _)))) (fun hHeld => ?_)
                  clear hK K
                  (try simp only [Act.put, List.setIfInBounds_toArray, List.set_cons_zero, List.set_cons_succ])
                  refine wpAnyH_done (by kernel_rfl) ?_ _
                  refine NoPanic.normal ?_
                  go_wp2
                  go_meet
                  refine ⟨_, rfl, ?_⟩
                  exact jv_a H3 hbF3
                 exact AllReadyH.nil
                refine AllReadyH.cons (o := Oper.mk (some 8) _ _ _ _ _) rfl (fun K hK => ?_) ?_
                ·
                 go_simp
                 clear hHeld
                 refine hK.out _ _ (by (try dsimp only); with_reducible (first | exact K7.out _ (Below.refl _ _).drew | exact K7.out _ (by assumption) | (refine K7.out _ ?_; (repeat (first | refine below_alloc ?_ (Nat.le_refl _) | refine Below.drew ?_ | refine below_set ?_ (by omega))); (first | exact hbF3 | exact hbF2 | exact hbF1 | exact Below.refl _ _)))) (fun hHeld => ?_)
                 clear hK K
                 (try simp only [Act.put, List.setIfInBounds_toArray, List.set_cons_zero, List.set_cons_succ])
                 refine wpAnyH_ready (rs := [6]) (by kernel_rfl) (by simp) ?_
                 refine AllReadyH.cons (o := Oper.mk (some 89) _ _ _ _ _) rfl (fun K hK => ?_) AllReadyH.nil
                 go_simp
                 (go_at_call 24; refine (qfloor_any n12 o12 p12 l12 c12 m12 k12 (va * ((d9 : Int) : Rat)) _ (H2.out.later ((Below.refl _ _).alloc (Nat.le_refl _) _)) (by omega) (by omega)).mono ?_; rintro e f3 ⟨n13, o13, l13, c13, rfl, hi, hb⟩; rw [HN0.out] at hi; have H3 : Hid (IntAt f3 n13 o13 l13 c13 N0) := hi; clear hi; have HFA : Hid (Fresh f3 f2.heap.size) := Fresh.next (Fresh.new f2) hb; have hbF3 : Below V.heap.size V f3 := bnext (below_alloc hbF2 (Nat.le_refl _)) hb; clear hb)
                 (try go_wp2_with fail)
                 clear hHeld
                 refine hK.out _ _ (by (try dsimp only); with_reducible (first | exact K7.out _ (Below.refl _ _).drew | exact K7.out _ (by assumption) | (refine K7.out _ ?_; (repeat (first | refine below_alloc ?_ (Nat.le_refl _) | refine Below.drew ?_ | refine below_set ?_ (by omega))); (first | exact hbF3 | exact hbF2 | exact hbF1 | exact Below.refl _ _)))) (fun hHeld => ?_)
                 clear hK K
                 (try simp only [Act.put, List.setIfInBounds_toArray, List.set_cons_zero, List.set_cons_succ])
                 have hzF3 := hbF3.size
                 obtain ⟨a5, a3, a4⟩ := HFA.out
                 refine wpAnyH_ready (rs := [8]) (by kernel_rfl) (by simp) ?_
                 refine AllReadyH.cons (o := Oper.mk none _ _ _ _ _) rfl (fun K hK => ?_) AllReadyH.nil
                 go_simp
                 clear hHeld
                 refine hK.out _ _ (by (try dsimp only); with_reducible (first | exact K7.out _ (Below.refl _ _).drew | exact K7.out _ (by assumption) | (refine K7.out _ ?_; (repeat (first | refine below_alloc ?_ (Nat.le_refl _) | refine Below.drew ?_ | refine below_set ?_ (by omega))); (first | exact hbF3 | exact hbF2 | exact hbF1 | exact Below.refl _ _)))) (fun hHeld => ?_)
                 clear hK K
                 (try simp only [Act.put, List.setIfInBounds_toArray, List.set_cons_zero, List.set_cons_succ])
                 refine wpAnyH_done (by kernel_rfl) ?_ _
                 refine NoPanic.normal ?_
                 go_wp2
                 go_meet
                 refine ⟨_, rfl, ?_⟩
                 exact jv_c H3 hbF3 a5 a3 a4 (by omega)
                exact AllReadyH.nil
               refine AllReadyH.cons (o := Oper.mk (some 8) _ _ _ _ _) rfl (fun K hK => ?_) ?_
               ·
                go_simp
                clear hHeld
                refine hK.out _ _ (by (try dsimp only); with_reducible (first | exact K7.out _ (Below.refl _ _).drew | exact K7.out _ (by assumption) | (refine K7.out _ ?_; (repeat (first | refine below_alloc ?_ (Nat.le_refl _) | refine Below.drew ?_ | refine below_set ?_ (by omega))); (first | exact hbF3 | exact hbF2 | exact hbF1 | exact Below.refl _ _)))) (fun hHeld => ?_)
                clear hK K
                (try simp only [Act.put, List.setIfInBounds_toArray, List.set_cons_zero, List.set_cons_succ])
                refine wpAnyH_ready (rs := [5]) (by kernel_rfl) (by simp) ?_
                refine AllReadyH.cons (o := Oper.mk (some 88) _ _ _ _ _) rfl (fun K hK => ?_) AllReadyH.nil
                go_simp
                (go_at_call 43; refine (qtimes_any na n11 ao po o11 p11 la ca lp cp l11 c11 m11 k11 va ((d9 : Int) : Rat) _ (HL.out.2.1.later (below_alloc hbF1 (Nat.le_refl _))) (H1.out.later ((Below.refl _ _).alloc (Nat.le_refl _) _)) (HA.out.2.2.1.mono (by decide)) (HSd.out.1.mono (by decide))).mono ?_; rintro e f2 ⟨n12, o12, l12, c12, p12, m12, k12, rfl, hr, hb⟩; have H2 : Hid (RatAt f2 n12 o12 l12 c12 p12 m12 k12 (va * ((d9 : Int) : Rat))) := hr; have hl12 : l12 ≤ 9 ∧ m12 ≤ 9 := hr.len HSd.out.2.1; clear hr; have HFA : Hid (Fresh f2 f1.heap.size) := Fresh.next (Fresh.new f1) hb; have hbF2 : Below V.heap.size V f2 := bnext (below_alloc hbF1 (Nat.le_refl _)) hb; clear hb)
                (try go_wp2_with fail)
                clear hHeld
                refine hK.out _ _ (by (try dsimp only); with_reducible (first | exact K7.out _ (Below.refl _ _).drew | exact K7.out _ (by assumption) | (refine K7.out _ ?_; (repeat (first | refine below_alloc ?_ (Nat.le_refl _) | refine Below.drew ?_ | refine below_set ?_ (by omega))); (first | exact hbF3 | exact hbF2 | exact hbF1 | exact Below.refl _ _)))) (fun hHeld => ?_)
                clear hK K
                (try simp only [Act.put, List.setIfInBounds_toArray, List.set_cons_zero, List.set_cons_succ])
                have hzF2 := hbF2.size
                refine wpAnyH_ready (rs := [6]) (by kernel_rfl) (by simp) ?_
                refine AllReadyH.cons (o := Oper.mk (some 89) _ _ _ _ _) rfl (fun K hK => ?_) AllReadyH.nil
                go_simp
                (go_at_call 24; refine (qfloor_any n12 o12 p12 l12 c12 m12 k12 (va * ((d9 : Int) : Rat)) _ (H2.out.later (Below.refl _ _)) (by omega) (by omega)).mono ?_; rintro e f3 ⟨n13, o13, l13, c13, rfl, hi, hb⟩; rw [HN0.out] at hi; have H3 : Hid (IntAt f3 n13 o13 l13 c13 N0) := hi; clear hi; replace HFA : Hid (Fresh f3 f1.heap.size) := Fresh.next HFA.out hb; have hbF3 : Below V.heap.size V f3 := bnext hbF2 hb; clear hb)
                (try go_wp2_with fail)
                clear hHeld
                refine hK.out _ _ (by (try dsimp only); with_reducible (first | exact K7.out _ (Below.refl _ _).drew | exact K7.out _ (by assumption) | (refine K7.out _ ?_; (repeat (first | refine below_alloc ?_ (Nat.le_refl _) | refine Below.drew ?_ | refine below_set ?_ (by omega))); (first | exact hbF3 | exact hbF2 | exact hbF1 | exact Below.refl _ _)))) (fun hHeld => ?_)
                clear hK K
                (try simp only [Act.put, List.setIfInBounds_toArray, List.set_cons_zero, List.set_cons_succ])
                have hzF3 := hbF3.size
                obtain ⟨a5, a3, a4⟩ := HFA.out
                refine wpAnyH_ready (rs := [8]) (by kernel_rfl) (by simp) ?_
                refine AllReadyH.cons (o := Oper.mk none _ _ _ _ _) rfl (fun K hK => ?_) AllReadyH.nil
                go_simp
                clear hHeld
                refine hK.out _ _ (by (try dsimp only); with_reducible (first | exact K7.out _ (Below.refl _ _).drew | exact K7.out _ (by assumption) | (refine K7.out _ ?_; (repeat (first | refine below_alloc ?_ (Nat.le_refl _) | refine Below.drew ?_ | refine below_set ?_ (by omega))); (first | exact hbF3 | exact hbF2 | exact hbF1 | exact Below.refl _ _)))) (fun hHeld => ?_)
                clear hK K
                (try simp only [Act.put, List.setIfInBounds_toArray, List.set_cons_zero, List.set_cons_succ])
                refine wpAnyH_done (by kernel_rfl) ?_ _
                refine NoPanic.normal ?_
                go_wp2
                go_meet
                refine ⟨_, rfl, ?_⟩
                exact jv_c H3 hbF3 a5 a3 a4 (by omega)
               exact AllReadyH.nil
              refine AllReadyH.cons (o := Oper.mk (some 8) _ _ _ _ _) rfl (fun K hK => ?_) ?_
              ·
               go_simp
               clear hHeld
               refine hK.out _ _ (by (try dsimp only); with_reducible (first | exact K7.out _ (Below.refl _ _).drew | exact K7.out _ (by assumption) | (refine K7.out _ ?_; (repeat (first | refine below_alloc ?_ (Nat.le_refl _) | refine Below.drew ?_ | refine below_set ?_ (by omega))); (first | exact hbF3 | exact hbF2 | exact hbF1 | exact Below.refl _ _)))) (fun hHeld => ?_)
               clear hK K
               (try simp only [Act.put, List.setIfInBounds_toArray, List.set_cons_zero, List.set_cons_succ])
               refine wpAnyH_ready (rs := [4]) (by kernel_rfl) (by simp) ?_
               refine AllReadyH.cons (o := Oper.mk (some 87) _ _ _ _ _) rfl (fun K hK => ?_) AllReadyH.nil
               go_simp
               (go_at_call 44; refine (qint_any (d9 : Int) _ (by omega) (by omega)).mono ?_; rintro e f1 ⟨n11, o11, l11, c11, p11, m11, k11, rfl, hr, hb⟩; have H1 : Hid (RatAt f1 n11 o11 l11 c11 p11 m11 k11 ((d9 : Int) : Rat)) := hr; clear hr; have HFA : Hid (Fresh f1 V.heap.size) := Fresh.next (Fresh.drew' (Fresh.new V)) hb; have hbF1 : Below V.heap.size V f1 := bnext (below_alloc (Below.refl _ _) (Nat.le_refl _)).drew hb; clear hb)
               (try go_wp2_with fail)
               clear hHeld
               refine hK.out _ _ (by (try dsimp only); with_reducible (first | exact K7.out _ (Below.refl _ _).drew | exact K7.out _ (by assumption) | (refine K7.out _ ?_; (repeat (first | refine below_alloc ?_ (Nat.le_refl _) | refine Below.drew ?_ | refine below_set ?_ (by omega))); (first | exact hbF3 | exact hbF2 | exact hbF1 | exact Below.refl _ _)))) (fun hHeld => ?_)
               clear hK K
               (try simp only [Act.put, List.setIfInBounds_toArray, List.set_cons_zero, List.set_cons_succ])
               have hzF1 := hbF1.size
               refine wpAnyH_ready (rs := [5]) (by kernel_rfl) (by simp) ?_
               refine AllReadyH.cons (o := Oper.mk (some 88) _ _ _ _ _) rfl (fun K hK => ?_) AllReadyH.nil
               go_simp
               (go_at_call 43; refine (qtimes_any na n11 ao po o11 p11 la ca lp cp l11 c11 m11 k11 va ((d9 : Int) : Rat) _ (HL.out.2.1.later hbF1) (H1.out.later (Below.refl _ _)) (HA.out.2.2.1.mono (by decide)) (HSd.out.1.mono (by decide))).mono ?_; rintro e f2 ⟨n12, o12, l12, c12, p12, m12, k12, rfl, hr, hb⟩; have H2 : Hid (RatAt f2 n12 o12 l12 c12 p12 m12 k12 (va * ((d9 : Int) : Rat))) := hr; have hl12 : l12 ≤ 9 ∧ m12 ≤ 9 := hr.len HSd.out.2.1; clear hr; replace HFA : Hid (Fresh f2 V.heap.size) := Fresh.next HFA.out hb; have hbF2 : Below V.heap.size V f2 := bnext hbF1 hb; clear hb)
               (try go_wp2_with fail)
               clear hHeld
               refine hK.out _ _ (by (try dsimp only); with_reducible (first | exact K7.out _ (Below.refl _ _).drew | exact K7.out _ (by assumption) | (refine K7.out _ ?_; (repeat (first | refine below_alloc ?_ (Nat.le_refl _) | refine Below.drew ?_ | refine below_set ?_ (by omega))); (first | exact hbF3 | exact hbF2 | exact hbF1 | exact Below.refl _ _)))) (fun hHeld => ?_)
               clear hK K
               (try simp only [Act.put, List.setIfInBounds_toArray, List.set_cons_zero, List.set_cons_succ])
               have hzF2 := hbF2.size
               refine wpAnyH_ready (rs := [6]) (by kernel_rfl) (by simp) ?_
               refine AllReadyH.cons (o := Oper.mk (some 89) _ _ _ _ _) rfl (fun K hK => ?_) AllReadyH.nil
               go_simp
               (go_at_call 24; refine (qfloor_any n12 o12 p12 l12 c12 m12 k12 (va * ((d9 : Int) : Rat)) _ (H2.out.later (Below.refl _ _)) (by omega) (by omega)).mono ?_; rintro e f3 ⟨n13, o13, l13, c13, rfl, hi, hb⟩; rw [HN0.out] at hi; have H3 : Hid (IntAt f3 n13 o13 l13 c13 N0) := hi; clear hi; replace HFA : Hid (Fresh f3 V.heap.size) := Fresh.next HFA.out hb; have hbF3 : Below V.heap.size V f3 := bnext hbF2 hb; clear hb)
               (try go_wp2_with fail)
               clear hHeld
               refine hK.out _ _ (by (try dsimp only); with_reducible (first | exact K7.out _ (Below.refl _ _).drew | exact K7.out _ (by assumption) | (refine K7.out _ ?_; (repeat (first | refine below_alloc ?_ (Nat.le_refl _) | refine Below.drew ?_ | refine below_set ?_ (by omega))); (first | exact hbF3 | exact hbF2 | exact hbF1 | exact Below.refl _ _)))) (fun hHeld => ?_)
               clear hK K
               (try simp only [Act.put, List.setIfInBounds_toArray, List.set_cons_zero, List.set_cons_succ])
               have hzF3 := hbF3.size
               obtain ⟨a5, a3, a4⟩ := HFA.out
               refine wpAnyH_ready (rs := [8]) (by kernel_rfl) (by simp) ?_
               refine AllReadyH.cons (o := Oper.mk none _ _ _ _ _) rfl (fun K hK => ?_) AllReadyH.nil
               go_simp
               clear hHeld
               refine hK.out _ _ (by (try dsimp only); with_reducible (first | exact K7.out _ (Below.refl _ _).drew | exact K7.out _ (by assumption) | (refine K7.out _ ?_; (repeat (first | refine below_alloc ?_ (Nat.le_refl _) | refine Below.drew ?_ | refine below_set ?_ (by omega))); (first | exact hbF3 | exact hbF2 | exact hbF1 | exact Below.refl _ _)))) (fun hHeld => ?_)
               clear hK K
               (try simp only [Act.put, List.setIfInBounds_toArray, List.set_cons_zero, List.set_cons_succ])
               refine wpAnyH_done (by kernel_rfl) ?_ _
               refine NoPanic.normal ?_
               go_wp2
               go_meet
               refine ⟨_, rfl, ?_⟩
               exact jv_c H3 hbF3 a5 a3 a4 (by omega)
              exact AllReadyH.nil
             case rest =>
              obtain ⟨r8, rfl, hj8⟩ := hcut
              obtain ⟨Q0, hQ0⟩ : ∃ Z, Z = wc := ⟨_, rfl⟩
              rw [← hQ0] at hj8
              rw [← hQ0]
              have HJ0 : Hid (JVar V Q0 r8 N0) := hj8
              clear hQ0 hj8 hwr K7
              go_wp2
              go_loopw [9] (fun i wo => ∃ k9 : Nat, k9 ≤ 2 ∧ i = .int .i64 (k9 : Int) ∧ JVar V wo r8 (N0 + (k9 : Int))) (fun i _ => 2 - (intOf i).toNat)
              case atStart => exact ⟨0, by decide, rfl, by have := HJ0.out; simpa using this⟩
              case round =>
               obtain ⟨k9, hk9, rfl, n8, o8, l8, c8, hb8, hi8, hf8, hr8, hbQ⟩ := hrel
               obtain ⟨Q, hQ⟩ : ∃ Z, Z = wr := ⟨_, rfl⟩
               rw [← hQ] at hb8 hi8 hf8 hbQ
               rw [← hQ]
               have HQ : Hid (Boxed Q r8 n8 o8 l8 c8 ∧ IntAt Q n8 o8 l8 c8 (N0 + (k9 : Int)) ∧ (∀ j, Q.frozen? ⟨r8, j, none⟩ = false) ∧ Below V.heap.size V Q) := ⟨hb8, hi8, hf8, hbQ⟩
               have hlt8 : r8 < Q.heap.size := cell_lt hb8.1
               have hsQ := hbQ.size
               by_cases hk2 : k9 < 2
               ·
                have hl8 : l8 ≤ 100 := (by rw [hi8.row.hlen]; have q1 := add_len N0 (k9 : Int); have q2 := HSd.out.2.2; have q3 : (mag ((k9 : Int)).natAbs).length ≤ 1 := (by rw [Int.natAbs_natCast]; exact Nat.le_trans (mag_len_mono (show k9 ≤ 60 by omega)) (by decide)); omega)
                obtain ⟨vy, hvy⟩ : ∃ y : Rat, y = Rat.normalize (N0 + (k9 : Int)) d9 (by omega) := ⟨_, rfl⟩
                have HVY : Hid (vy = Rat.normalize (N0 + (k9 : Int)) d9 (by omega) ∧ Sz vy 100 ∧ vy.den ≤ d9) := (by
                 have h1 : (mag (N0 + (k9 : Int)).natAbs).length ≤ 100 := by rw [← hi8.row.hlen]; exact hl8
                 refine ⟨hvy, ?_, ?_⟩
                 · rw [hvy]; exact Sz.make _ h1 (by rw [mag_small (by omega) (by omega)]; simp)
                 · rw [hvy, (rmake_parts (n := N0 + (k9 : Int)) (d := d9) (by omega)).2]; exact Nat.div_le_self _ _)
                clear hQ hvy hb8 hi8 hf8 hbQ
                go_upto_region 19 with fail
                go_cut [10] (fun s10 wx => ∃ r, s10 = .pointer (some ⟨r, 0, none⟩) ∧ NVar Q wx r vy)
                case first =>
                 obtain ⟨y0, y1⟩ := HQ.out.1
                 go_wp2_with (go_at_call 36; refine (qmake_any n8 o8 (some ⟨Q.heap.size, 0, none⟩) l8 c8 1 1 (N0 + (k9 : Int)) d9 _ (int_alloc HQ.out.2.1) (nw_word (mag_small (by omega) (by omega))).row (by omega) (by omega) (by omega) vy HVY.out.1).mono ?_; rintro e y ⟨n14, o14, l14, c14, p14, m14, k14, rfl, hr, hb⟩; have HY : Hid (RatAt y n14 o14 l14 c14 p14 m14 k14 vy) := hr; have HY2 : Hid (Below Q.heap.size Q y) := bnext ((Below.refl _ _).alloc (Nat.le_refl _) _) hb; clear hr hb)
                 go_meet
                 exact ⟨_, rfl, nvr_a HY HY2.out⟩
                case rest =>
                 obtain ⟨r10, rfl, n10, o10, l10, c10, p10, m10, k10, hv10, hr10, hbR⟩ := hcut
                 obtain ⟨R, hR⟩ : ∃ Z, Z = wc := ⟨_, rfl⟩
                 rw [← hR] at hv10 hbR
                 rw [← hR]
                 clear hR
                 have HR : Hid (RVar R r10 n10 o10 l10 c10 p10 m10 k10 vy ∧ RVar R r5 n5 o5 l5 c5 (some ⟨bx, ox, none⟩) 1 k5 vx ∧ RatAt R na ao la ca po lp cp va ∧ RatAt R nb bo lb cb qo lq cq vb ∧ Boxed7 R rP na nb ao po bo qo la ca lp cp lb cb lq cq N ∧ R.cell? ⟨bx, ox, none⟩ = some (.int .u64 (D : Int)) ∧ Below Q.heap.size Q R) := (by
                  have h1 := bnext HQ.out.2.2.2 hbR
                  exact ⟨hv10, HL.out.1.later h1, HL.out.2.1.later h1, HL.out.2.2.1.later h1, HL.out.2.2.2.1.later h1 hpV, (h1.cell (p := ⟨bx, ox, none⟩) hbxV).trans HL.out.2.2.2.2.1, hbR⟩)
                 have hpR : rP < R.heap.size := by have := hbR.size; omega
                 have hbxR : bx < R.heap.size := by have := hbR.size; omega
                 clear hv10 hbR
                 obtain ⟨th, hth⟩ : ∃ b : Bool, (b = true → LeQ va vy ∧ LeQ vy vb) ∧ (b = false → ¬ (LeQ va vy ∧ LeQ vy vb)) := (by
                  by_cases h : LeQ va vy ∧ LeQ vy vb
                  · exact ⟨true, fun _ => h, fun e => by cases e⟩
                  · exact ⟨false, fun e => (by cases e), fun _ => h⟩)
                 have HTH : Hid ((th = true → LeQ va vy ∧ LeQ vy vb) ∧ (th = false → ¬ (LeQ va vy ∧ LeQ vy vb))) := hth
                 clear hth
                 go_upto_region 20 with fail
                 go_cut [11] (fun s11 wx => s11 = .bool th ∧ Below R.heap.size R wx)
                 case first =>
                  obtain ⟨q0, q1, q2, q3, q4, q5, q6⟩ := HR.out.2.2.2.2.1
                  obtain ⟨y0, y1, y2⟩ := HR.out.1.box
                  obtain ⟨c1, hc1⟩ : ∃ c, cmpQ va vy = c := ⟨_, rfl⟩
                  obtain ⟨c2, hc2⟩ : ∃ c, cmpQ vy vb = c := ⟨_, rfl⟩
                  have HC12 : Hid (cmpQ va vy = c1 ∧ cmpQ vy vb = c2) := ⟨hc1, hc2⟩
                  have hh : ((c1 = -1 ∨ c1 = 0) ∧ ((c2 = -1 ∨ c2 = 0) ∧ th = true ∨ c2 = 1 ∧ th = false)) ∨ (c1 = 1 ∧ th = false) := (by
                   have t1 : ¬ (LeQ va vy ∧ LeQ vy vb) → th = false := fun h => by cases th; rfl; exact absurd (HTH.out.1 rfl) h
                   have t2 : (LeQ va vy ∧ LeQ vy vb) → th = true := fun h => by cases th; exact absurd h (HTH.out.2 rfl); rfl
                   by_cases h1 : LeQ va vy
                   · by_cases h2 : LeQ vy vb
                     · exact Or.inl ⟨hc1 ▸ cmpQ_le h1, Or.inl ⟨hc2 ▸ cmpQ_le h2, t2 ⟨h1, h2⟩⟩⟩
                     · exact Or.inl ⟨hc1 ▸ cmpQ_le h1, Or.inr ⟨hc2 ▸ cmpQ_nle h2, t1 (fun h => h2 h.2)⟩⟩
                   · exact Or.inr ⟨hc1 ▸ cmpQ_nle h1, t1 (fun h => h1 h.1)⟩)
                  clear hc1 hc2
                  rcases hh with ⟨rfl | rfl, ⟨rfl | rfl, rfl⟩ | ⟨rfl, rfl⟩⟩ | ⟨rfl, rfl⟩
                  all_goals
                   go_wp2_with (first
                    | (go_at_call 28; have _t := hy1; refine (qcmp_any n10 nb o10 p10 bo qo l10 c10 m10 k10 lb cb lq cq vy vb _ (HR.out.1.rat.later hy1) (HR.out.2.2.2.1.later hy1) (HVY.out.2.1.mono (by decide)) (HA.out.2.2.2.mono (by decide)) _ HC12.out.2).mono ?_; rintro e g2 ⟨rfl, hy2⟩; replace hy1 := bnext hy1 hy2; clear hy2)
                    | (go_at_call 28; refine (qcmp_any na n10 ao po o10 p10 la ca lp cp l10 c10 m10 k10 va vy _ HR.out.2.2.1 HR.out.1.rat (HA.out.2.2.1.mono (by decide)) (HVY.out.2.1.mono (by decide)) _ HC12.out.1).mono ?_; rintro e g1 ⟨rfl, hy1⟩; clear q0 q1 q2 q3 q4 q5 q6 y0 y1 y2; obtain ⟨q0, q1, q2, q3, q4, q5, q6⟩ := HR.out.2.2.2.2.1.later hy1 hpR; obtain ⟨y0, y1, y2⟩ := HR.out.1.box.later hy1 HR.out.1.lt))
                   go_meet
                   exact ⟨rfl, hy1⟩
                 case rest =>
                  obtain ⟨rfl, hbS⟩ := hcut
                  obtain ⟨S, hS⟩ : ∃ Z, Z = wc := ⟨_, rfl⟩
                  rw [← hS] at hbS
                  rw [← hS]
                  clear hS
                  have HS : Hid (RVar S r10 n10 o10 l10 c10 p10 m10 k10 vy ∧ RVar S r5 n5 o5 l5 c5 (some ⟨bx, ox, none⟩) 1 k5 vx ∧ S.cell? ⟨bx, ox, none⟩ = some (.int .u64 (D : Int)) ∧ Below Q.heap.size Q S) := ⟨HR.out.1.later hbS, HR.out.2.1.later hbS, (hbS.cell (p := ⟨bx, ox, none⟩) hbxR).trans HR.out.2.2.2.2.2.1, bnext HR.out.2.2.2.2.2.2 hbS⟩
                  have hbxS : bx < S.heap.size := Nat.lt_of_lt_of_le hbxR hbS.size
                  clear hbS HR
                  have KS : Hid (∀ w' : World, Below S.heap.size S w' → w'.cell? ⟨r5, 0, none⟩ = some (.bool n5) ∧ w'.cell? ⟨r5, 1, none⟩ = some (.slice o5 l5 c5) ∧ w'.cell? ⟨r5, 2, none⟩ = some (.slice (some ⟨bx, ox, none⟩) 1 k5) ∧ w'.cell? ⟨r10, 0, none⟩ = some (.bool n10) ∧ w'.cell? ⟨r10, 1, none⟩ = some (.slice o10 l10 c10) ∧ w'.cell? ⟨r10, 2, none⟩ = some (.slice p10 m10 k10) ∧ w'.cell? ⟨bx, ox, none⟩ = some (.int .u64 (D : Int))) := fun w' h => (by obtain ⟨a0, a1, a2⟩ := HS.out.2.1.box.later h HS.out.2.1.lt; obtain ⟨b0, b1, b2⟩ := HS.out.1.box.later h HS.out.1.lt; exact ⟨a0, a1, a2, b0, b1, b2, (h.cell (p := ⟨bx, ox, none⟩) hbxS).trans HS.out.2.2.1⟩)
                  go_upto_region 21 with fail
                  go_cut [137] (fun s137 wx => s137 = .bool false ∧ Below S.heap.size S wx)
                  case first =>
                   cases th
                   ·
                    refine wp_region_noPanic ?_
                    refine wp_region_held_drew (S := fun w' => (w'.cell? ⟨r5, 0, none⟩ = some (.bool n5) ∧ w'.cell? ⟨r5, 1, none⟩ = some (.slice o5 l5 c5) ∧ w'.cell? ⟨r5, 2, none⟩ = some (.slice (some ⟨bx, ox, none⟩) 1 k5) ∧ w'.cell? ⟨r10, 0, none⟩ = some (.bool n10) ∧ w'.cell? ⟨r10, 1, none⟩ = some (.slice o10 l10 c10) ∧ w'.cell? ⟨r10, 2, none⟩ = some (.slice p10 m10 k10) ∧ w'.cell? ⟨bx, ox, none⟩ = some (.int .u64 (D : Int)))) (by kernel_rfl) (by (try dsimp only); exact KS.out _ (Below.refl _ _).drew) (fun hHeld => ?_)
                    refine wpAnyH_take (i := 0) (oi := Oper.mk (some 110) _ _ _ _ _) (v := ?_) rfl (by kernel_rfl) (by kernel_rfl) (by kernel_rfl) (fun _ _ _ h => h) (Or.inl ⟨by rfl, ?_⟩) (by assumption) ?_
                    rotate_left
                    · (intro w hSw; (try dsimp only at hSw); go_simp <;> (try with_reducible rfl))
                    (try simp only [Act.put, List.setIfInBounds_toArray, List.set_cons_zero, List.set_cons_succ])
                    refine wpAnyH_take (i := 1) (oi := Oper.mk (some 111) _ _ _ _ _) (v := ?_) rfl (by kernel_rfl) (by kernel_rfl) (by kernel_rfl) (fun _ _ _ h => h) (Or.inl ⟨by rfl, ?_⟩) (by assumption) ?_
                    rotate_left
                    · (intro w hSw; (try dsimp only at hSw); go_simp <;> (try with_reducible rfl))
                    (try simp only [Act.put, List.setIfInBounds_toArray, List.set_cons_zero, List.set_cons_succ])
                    refine wpAnyH_take (i := 2) (oi := Oper.mk (some 112) _ _ _ _ _) (v := undef) rfl (by kernel_rfl) (by kernel_rfl) (by kernel_rfl) (fun _ _ _ h => h) (Or.inr ⟨by rfl, rfl⟩) (by assumption) ?_
                    (try simp only [Act.put, List.setIfInBounds_toArray, List.set_cons_zero, List.set_cons_succ])
                    refine wpAnyH_take (i := 3) (oi := Oper.mk (some 113) _ _ _ _ _) (v := undef) rfl (by kernel_rfl) (by kernel_rfl) (by kernel_rfl) (fun _ _ _ h => h) (Or.inr ⟨by rfl, rfl⟩) (by assumption) ?_
                    (try simp only [Act.put, List.setIfInBounds_toArray, List.set_cons_zero, List.set_cons_succ])
                    refine wpAnyH_take (i := 4) (oi := Oper.mk (some 114) _ _ _ _ _) (v := undef) rfl (by kernel_rfl) (by kernel_rfl) (by kernel_rfl) (fun _ _ _ h => h) (Or.inr ⟨by rfl, rfl⟩) (by assumption) ?_
                    (try simp only [Act.put, List.setIfInBounds_toArray, List.set_cons_zero, List.set_cons_succ])
                    refine wpAnyH_take (i := 5) (oi := Oper.mk (some 115) _ _ _ _ _) (v := undef) rfl (by kernel_rfl) (by kernel_rfl) (by kernel_rfl) (fun _ _ _ h => h) (Or.inr ⟨by rfl, rfl⟩) (by assumption) ?_
                    (try simp only [Act.put, List.setIfInBounds_toArray, List.set_cons_zero, List.set_cons_succ])
                    refine wpAnyH_take (i := 6) (oi := Oper.mk (some 116) _ _ _ _ _) (v := undef) rfl (by kernel_rfl) (by kernel_rfl) (by kernel_rfl) (fun _ _ _ h => h) (Or.inr ⟨by rfl, rfl⟩) (by assumption) ?_
                    (try simp only [Act.put, List.setIfInBounds_toArray, List.set_cons_zero, List.set_cons_succ])
                    refine wpAnyH_take (i := 7) (oi := Oper.mk (some 117) _ _ _ _ _) (v := undef) rfl (by kernel_rfl) (by kernel_rfl) (by kernel_rfl) (fun _ _ _ h => h) (Or.inr ⟨by rfl, rfl⟩) (by assumption) ?_
                    (try simp only [Act.put, List.setIfInBounds_toArray, List.set_cons_zero, List.set_cons_succ])
                    refine wpAnyH_take (i := 8) (oi := Oper.mk (some 118) _ _ _ _ _) (v := ?_) rfl (by kernel_rfl) (by kernel_rfl) (by kernel_rfl) (fun _ _ _ h => h) (Or.inl ⟨by rfl, ?_⟩) (by assumption) ?_
                    rotate_left
                    · (intro w hSw; (try dsimp only at hSw); go_simp <;> (try with_reducible rfl))
                    (try simp only [Act.put, List.setIfInBounds_toArray, List.set_cons_zero, List.set_cons_succ])
                    refine wpAnyH_take (i := 9) (oi := Oper.mk (some 119) _ _ _ _ _) (v := ?_) rfl (by kernel_rfl) (by kernel_rfl) (by kernel_rfl) (fun _ _ _ h => h) (Or.inl ⟨by rfl, ?_⟩) (by assumption) ?_
                    rotate_left
                    · (intro w hSw; (try dsimp only at hSw); go_simp <;> (try with_reducible rfl))
                    (try simp only [Act.put, List.setIfInBounds_toArray, List.set_cons_zero, List.set_cons_succ])
                    refine wpAnyH_take (i := 10) (oi := Oper.mk (some 120) _ _ _ _ _) (v := ?_) rfl (by kernel_rfl) (by kernel_rfl) (by kernel_rfl) (fun _ _ _ h => h) (Or.inl ⟨by rfl, ?_⟩) (by assumption) ?_
                    rotate_left
                    · (intro w hSw; (try dsimp only at hSw); go_simp <;> (try with_reducible rfl))
                    (try simp only [Act.put, List.setIfInBounds_toArray, List.set_cons_zero, List.set_cons_succ])
                    refine wpAnyH_take (i := 11) (oi := Oper.mk (some 121) _ _ _ _ _) (v := ?_) rfl (by kernel_rfl) (by kernel_rfl) (by kernel_rfl) (fun _ _ _ h => h) (Or.inl ⟨by rfl, ?_⟩) (by assumption) ?_
                    rotate_left
                    · (intro w hSw; (try dsimp only at hSw); go_simp <;> (try with_reducible rfl))
                    (try simp only [Act.put, List.setIfInBounds_toArray, List.set_cons_zero, List.set_cons_succ])
                    refine wpAnyH_take (i := 12) (oi := Oper.mk (some 122) _ _ _ _ _) (v := undef) rfl (by kernel_rfl) (by kernel_rfl) (by kernel_rfl) (fun _ _ _ h => h) (Or.inr ⟨by rfl, rfl⟩) (by assumption) ?_
                    (try simp only [Act.put, List.setIfInBounds_toArray, List.set_cons_zero, List.set_cons_succ])
                    refine wpAnyH_take (i := 13) (oi := Oper.mk (some 123) _ _ _ _ _) (v := undef) rfl (by kernel_rfl) (by kernel_rfl) (by kernel_rfl) (fun _ _ _ h => h) (Or.inr ⟨by rfl, rfl⟩) (by assumption) ?_
                    (try simp only [Act.put, List.setIfInBounds_toArray, List.set_cons_zero, List.set_cons_succ])
                    refine wpAnyH_take (i := 14) (oi := Oper.mk (some 124) _ _ _ _ _) (v := undef) rfl (by kernel_rfl) (by kernel_rfl) (by kernel_rfl) (fun _ _ _ h => h) (Or.inr ⟨by rfl, rfl⟩) (by assumption) ?_
                    (try simp only [Act.put, List.setIfInBounds_toArray, List.set_cons_zero, List.set_cons_succ])
                    refine wpAnyH_take (i := 15) (oi := Oper.mk (some 125) _ _ _ _ _) (v := undef) rfl (by kernel_rfl) (by kernel_rfl) (by kernel_rfl) (fun _ _ _ h => h) (Or.inr ⟨by rfl, rfl⟩) (by assumption) ?_
                    (try simp only [Act.put, List.setIfInBounds_toArray, List.set_cons_zero, List.set_cons_succ])
                    refine wpAnyH_take (i := 16) (oi := Oper.mk (some 126) _ _ _ _ _) (v := undef) rfl (by kernel_rfl) (by kernel_rfl) (by kernel_rfl) (fun _ _ _ h => h) (Or.inr ⟨by rfl, rfl⟩) (by assumption) ?_
                    (try simp only [Act.put, List.setIfInBounds_toArray, List.set_cons_zero, List.set_cons_succ])
                    refine wpAnyH_take (i := 17) (oi := Oper.mk (some 127) _ _ _ _ _) (v := undef) rfl (by kernel_rfl) (by kernel_rfl) (by kernel_rfl) (fun _ _ _ h => h) (Or.inr ⟨by rfl, rfl⟩) (by assumption) ?_
                    (try simp only [Act.put, List.setIfInBounds_toArray, List.set_cons_zero, List.set_cons_succ])
                    refine wpAnyH_take (i := 18) (oi := Oper.mk (some 128) _ _ _ _ _) (v := ?_) rfl (by kernel_rfl) (by kernel_rfl) (by kernel_rfl) (fun _ _ _ h => h) (Or.inl ⟨by rfl, ?_⟩) (by assumption) ?_
                    rotate_left
                    · (intro w hSw; (try dsimp only at hSw); go_simp <;> (try with_reducible rfl))
                    (try simp only [Act.put, List.setIfInBounds_toArray, List.set_cons_zero, List.set_cons_succ])
                    refine wpAnyH_take (i := 19) (oi := Oper.mk (some 129) _ _ _ _ _) (v := ?_) rfl (by kernel_rfl) (by kernel_rfl) (by kernel_rfl) (fun _ _ _ h => h) (Or.inl ⟨by rfl, ?_⟩) (by assumption) ?_
                    rotate_left
                    · (intro w hSw; (try dsimp only at hSw); go_simp <;> (try with_reducible rfl))
                    (try simp only [Act.put, List.setIfInBounds_toArray, List.set_cons_zero, List.set_cons_succ])
                    refine wpAnyH_take (i := 20) (oi := Oper.mk (some 130) _ _ _ _ _) (v := undef) rfl (by kernel_rfl) (by kernel_rfl) (by kernel_rfl) (fun _ _ _ h => h) (Or.inr ⟨by rfl, rfl⟩) (by assumption) ?_
                    (try simp only [Act.put, List.setIfInBounds_toArray, List.set_cons_zero, List.set_cons_succ])
                    refine wpAnyH_take (i := 21) (oi := Oper.mk (some 131) _ _ _ _ _) (v := undef) rfl (by kernel_rfl) (by kernel_rfl) (by kernel_rfl) (fun _ _ _ h => h) (Or.inr ⟨by rfl, rfl⟩) (by assumption) ?_
                    (try simp only [Act.put, List.setIfInBounds_toArray, List.set_cons_zero, List.set_cons_succ])
                    refine wpAnyH_take (i := 22) (oi := Oper.mk (some 132) _ _ _ _ _) (v := undef) rfl (by kernel_rfl) (by kernel_rfl) (by kernel_rfl) (fun _ _ _ h => h) (Or.inr ⟨by rfl, rfl⟩) (by assumption) ?_
                    (try simp only [Act.put, List.setIfInBounds_toArray, List.set_cons_zero, List.set_cons_succ])
                    refine wpAnyH_take (i := 23) (oi := Oper.mk (some 133) _ _ _ _ _) (v := undef) rfl (by kernel_rfl) (by kernel_rfl) (by kernel_rfl) (fun _ _ _ h => h) (Or.inr ⟨by rfl, rfl⟩) (by assumption) ?_
                    (try simp only [Act.put, List.setIfInBounds_toArray, List.set_cons_zero, List.set_cons_succ])
                    refine wpAnyH_take (i := 24) (oi := Oper.mk (some 134) _ _ _ _ _) (v := undef) rfl (by kernel_rfl) (by kernel_rfl) (by kernel_rfl) (fun _ _ _ h => h) (Or.inr ⟨by rfl, rfl⟩) (by assumption) ?_
                    (try simp only [Act.put, List.setIfInBounds_toArray, List.set_cons_zero, List.set_cons_succ])
                    refine wpAnyH_take (i := 25) (oi := Oper.mk (some 135) _ _ _ _ _) (v := undef) rfl (by kernel_rfl) (by kernel_rfl) (by kernel_rfl) (fun _ _ _ h => h) (Or.inr ⟨by rfl, rfl⟩) (by assumption) ?_
                    (try simp only [Act.put, List.setIfInBounds_toArray, List.set_cons_zero, List.set_cons_succ])
                    refine wpAnyH_take (i := 26) (oi := Oper.mk (some 136) _ _ _ _ _) (v := ?_) rfl (by kernel_rfl) (by kernel_rfl) (by kernel_rfl) (fun _ _ _ h => h) (Or.inl ⟨by rfl, ?_⟩) (by assumption) ?_
                    rotate_left
                    · (intro w hSw; (try dsimp only at hSw); go_simp <;> (try with_reducible rfl))
                    (try simp only [Act.put, List.setIfInBounds_toArray, List.set_cons_zero, List.set_cons_succ])
                    refine wpAnyH_take (i := 27) (oi := Oper.mk (some 137) _ _ _ _ _) (v := ?_) rfl (by kernel_rfl) (by kernel_rfl) (by kernel_rfl) (fun _ _ _ h => h) (Or.inl ⟨by rfl, ?_⟩) (by assumption) ?_
                    rotate_left
                    · (intro w hSw; (try dsimp only at hSw); go_simp <;> (try with_reducible rfl))
                    (try simp only [Act.put, List.setIfInBounds_toArray, List.set_cons_zero, List.set_cons_succ])
                    refine wpAnyH_done (by kernel_rfl) ?_ _
                    refine NoPanic.normal ?_
                    go_wp2
                    go_meet
                    exact ⟨rfl, (Below.refl _ _).drew⟩
                   ·
                    obtain ⟨hle1, hle2⟩ := HTH.out.1 rfl
                    obtain ⟨hde, hnu⟩ := HV.out.1.least HLE.out hle1 hle2
                    have hvd := HVY.out.2.2
                    have hDD : d9 = D := by have := HD.out.1; omega
                    have habs := abs_ge (x := vx) (y := vy) (by have := HD.out.1; omega) hnu
                    subst hDD
                    obtain ⟨cc, hcc⟩ : ∃ c, cmpQ (absR vy) (absR vx) = c := ⟨_, rfl⟩
                    rw [hcc] at habs
                    have HCC : Hid (cmpQ (absR vy) (absR vx) = cc) := hcc
                    clear hcc hle1 hle2 hde hnu hvd
                    rcases habs with rfl | rfl
                    all_goals
                     refine wp_region_noPanic ?_
                     refine wp_region_held_drew (S := fun w' => (w'.cell? ⟨r5, 0, none⟩ = some (.bool n5) ∧ w'.cell? ⟨r5, 1, none⟩ = some (.slice o5 l5 c5) ∧ w'.cell? ⟨r5, 2, none⟩ = some (.slice (some ⟨bx, ox, none⟩) 1 k5) ∧ w'.cell? ⟨r10, 0, none⟩ = some (.bool n10) ∧ w'.cell? ⟨r10, 1, none⟩ = some (.slice o10 l10 c10) ∧ w'.cell? ⟨r10, 2, none⟩ = some (.slice p10 m10 k10) ∧ w'.cell? ⟨bx, ox, none⟩ = some (.int .u64 (d9 : Int)))) (by kernel_rfl) (by (try dsimp only); exact KS.out _ (Below.refl _ _).drew) (fun hHeld => ?_)
                     refine wpAnyH_take (i := 0) (oi := Oper.mk (some 110) _ _ _ _ _) (v := ?_) rfl (by kernel_rfl) (by kernel_rfl) (by kernel_rfl) (fun _ _ _ h => h) (Or.inl ⟨by rfl, ?_⟩) (by assumption) ?_
                     rotate_left
                     · (intro w hSw; (try dsimp only at hSw); go_simp <;> (try with_reducible rfl))
                     (try simp only [Act.put, List.setIfInBounds_toArray, List.set_cons_zero, List.set_cons_succ])
                     refine wpAnyH_take (i := 1) (oi := Oper.mk (some 111) _ _ _ _ _) (v := ?_) rfl (by kernel_rfl) (by kernel_rfl) (by kernel_rfl) (fun _ _ _ h => h) (Or.inl ⟨by rfl, ?_⟩) (by assumption) ?_
                     rotate_left
                     · (intro w hSw; (try dsimp only at hSw); go_simp <;> (try with_reducible rfl))
                     (try simp only [Act.put, List.setIfInBounds_toArray, List.set_cons_zero, List.set_cons_succ])
                     refine wpAnyH_take (i := 2) (oi := Oper.mk (some 112) _ _ _ _ _) (v := ?_) rfl (by kernel_rfl) (by kernel_rfl) (by kernel_rfl) (fun _ _ _ h => h) (Or.inl ⟨by rfl, ?_⟩) (by assumption) ?_
                     rotate_left
                     · (intro w hSw; (try dsimp only at hSw); go_simp <;> (try with_reducible rfl))
                     (try simp only [Act.put, List.setIfInBounds_toArray, List.set_cons_zero, List.set_cons_succ])
                     refine wpAnyH_take (i := 3) (oi := Oper.mk (some 113) _ _ _ _ _) (v := ?_) rfl (by kernel_rfl) (by kernel_rfl) (by kernel_rfl) (fun _ _ _ h => h) (Or.inl ⟨by rfl, ?_⟩) (by assumption) ?_
                     rotate_left
                     · (intro w hSw; (try dsimp only at hSw); go_simp <;> (try with_reducible rfl))
                     (try simp only [Act.put, List.setIfInBounds_toArray, List.set_cons_zero, List.set_cons_succ])
                     refine wpAnyH_take (i := 4) (oi := Oper.mk (some 114) _ _ _ _ _) (v := ?_) rfl (by kernel_rfl) (by kernel_rfl) (by kernel_rfl) (fun _ _ _ h => h) (Or.inl ⟨by rfl, ?_⟩) (by assumption) ?_
                     rotate_left
                     · (intro w hSw; (try dsimp only at hSw); go_simp <;> (try with_reducible rfl))
                     (try simp only [Act.put, List.setIfInBounds_toArray, List.set_cons_zero, List.set_cons_succ])
                     refine wpAnyH_take (i := 5) (oi := Oper.mk (some 115) _ _ _ _ _) (v := ?_) rfl (by kernel_rfl) (by kernel_rfl) (by kernel_rfl) (fun _ _ _ h => h) (Or.inl ⟨by rfl, ?_⟩) (by assumption) ?_
                     rotate_left
                     · (intro w hSw; (try dsimp only at hSw); go_simp <;> (try with_reducible rfl))
                     (try simp only [Act.put, List.setIfInBounds_toArray, List.set_cons_zero, List.set_cons_succ])
                     refine wpAnyH_take (i := 6) (oi := Oper.mk (some 116) _ _ _ _ _) (v := ?_) rfl (by kernel_rfl) (by kernel_rfl) (by kernel_rfl) (fun _ _ _ h => h) (Or.inl ⟨by rfl, ?_⟩) (by assumption) ?_
                     rotate_left
                     · (intro w hSw; (try dsimp only at hSw); go_simp <;> (try with_reducible rfl))
                     (try simp only [Act.put, List.setIfInBounds_toArray, List.set_cons_zero, List.set_cons_succ])
                     refine wpAnyH_take (i := 7) (oi := Oper.mk (some 117) _ _ _ _ _) (v := ?_) rfl (by kernel_rfl) (by kernel_rfl) (by kernel_rfl) (fun _ _ _ h => h) (Or.inl ⟨by rfl, ?_⟩) (by assumption) ?_
                     rotate_left
                     · (intro w hSw; (try dsimp only at hSw); go_simp <;> (try with_reducible rfl))
                     (try simp only [Act.put, List.setIfInBounds_toArray, List.set_cons_zero, List.set_cons_succ])
                     refine wpAnyH_take (i := 8) (oi := Oper.mk (some 118) _ _ _ _ _) (v := ?_) rfl (by kernel_rfl) (by kernel_rfl) (by kernel_rfl) (fun _ _ _ h => h) (Or.inl ⟨by rfl, ?_⟩) (by assumption) ?_
                     rotate_left
                     · (intro w hSw; (try dsimp only at hSw); go_simp <;> (try with_reducible rfl))
                     (try simp only [Act.put, List.setIfInBounds_toArray, List.set_cons_zero, List.set_cons_succ])
                     refine wpAnyH_take (i := 9) (oi := Oper.mk (some 119) _ _ _ _ _) (v := ?_) rfl (by kernel_rfl) (by kernel_rfl) (by kernel_rfl) (fun _ _ _ h => h) (Or.inl ⟨by rfl, ?_⟩) (by assumption) ?_
                     rotate_left
                     · (intro w hSw; (try dsimp only at hSw); go_simp <;> (try with_reducible rfl))
                     (try simp only [Act.put, List.setIfInBounds_toArray, List.set_cons_zero, List.set_cons_succ])
                     refine wpAnyH_take (i := 10) (oi := Oper.mk (some 120) _ _ _ _ _) (v := ?_) rfl (by kernel_rfl) (by kernel_rfl) (by kernel_rfl) (fun _ _ _ h => h) (Or.inl ⟨by rfl, ?_⟩) (by assumption) ?_
                     rotate_left
                     · (intro w hSw; (try dsimp only at hSw); go_simp <;> (try with_reducible rfl))
                     (try simp only [Act.put, List.setIfInBounds_toArray, List.set_cons_zero, List.set_cons_succ])
                     refine wpAnyH_take (i := 11) (oi := Oper.mk (some 121) _ _ _ _ _) (v := ?_) rfl (by kernel_rfl) (by kernel_rfl) (by kernel_rfl) (fun _ _ _ h => h) (Or.inl ⟨by rfl, ?_⟩) (by assumption) ?_
                     rotate_left
                     · (intro w hSw; (try dsimp only at hSw); go_simp <;> (try with_reducible rfl))
                     (try simp only [Act.put, List.setIfInBounds_toArray, List.set_cons_zero, List.set_cons_succ])
                     refine wpAnyH_take (i := 12) (oi := Oper.mk (some 122) _ _ _ _ _) (v := ?_) rfl (by kernel_rfl) (by kernel_rfl) (by kernel_rfl) (fun _ _ _ h => h) (Or.inl ⟨by rfl, ?_⟩) (by assumption) ?_
                     rotate_left
                     · (intro w hSw; (try dsimp only at hSw); go_simp <;> (try with_reducible rfl))
                     (try simp only [Act.put, List.setIfInBounds_toArray, List.set_cons_zero, List.set_cons_succ])
                     refine wpAnyH_take (i := 13) (oi := Oper.mk (some 123) _ _ _ _ _) (v := ?_) rfl (by kernel_rfl) (by kernel_rfl) (by kernel_rfl) (fun _ _ _ h => h) (Or.inl ⟨by rfl, ?_⟩) (by assumption) ?_
                     rotate_left
                     · (intro w hSw; (try dsimp only at hSw); go_simp <;> (try with_reducible rfl))
                     (try simp only [Act.put, List.setIfInBounds_toArray, List.set_cons_zero, List.set_cons_succ])
                     refine wpAnyH_take (i := 14) (oi := Oper.mk (some 124) _ _ _ _ _) (v := ?_) rfl (by kernel_rfl) (by kernel_rfl) (by kernel_rfl) (fun _ _ _ h => h) (Or.inl ⟨by rfl, ?_⟩) (by assumption) ?_
                     rotate_left
                     · (intro w hSw; (try dsimp only at hSw); go_simp <;> (try with_reducible rfl))
                     (try simp only [Act.put, List.setIfInBounds_toArray, List.set_cons_zero, List.set_cons_succ])
                     refine wpAnyH_take (i := 15) (oi := Oper.mk (some 125) _ _ _ _ _) (v := ?_) rfl (by kernel_rfl) (by kernel_rfl) (by kernel_rfl) (fun _ _ _ h => h) (Or.inl ⟨by rfl, ?_⟩) (by assumption) ?_
                     rotate_left
                     · (intro w hSw; (try dsimp only at hSw); go_simp <;> (try with_reducible rfl))
                     (try simp only [Act.put, List.setIfInBounds_toArray, List.set_cons_zero, List.set_cons_succ])
                     refine wpAnyH_take (i := 16) (oi := Oper.mk (some 126) _ _ _ _ _) (v := ?_) rfl (by kernel_rfl) (by kernel_rfl) (by kernel_rfl) (fun _ _ _ h => h) (Or.inl ⟨by rfl, ?_⟩) (by assumption) ?_
                     rotate_left
                     · (intro w hSw; (try dsimp only at hSw); go_simp <;> (try with_reducible rfl))
                     (try simp only [Act.put, List.setIfInBounds_toArray, List.set_cons_zero, List.set_cons_succ])
                     refine wpAnyH_take (i := 17) (oi := Oper.mk (some 127) _ _ _ _ _) (v := ?_) rfl (by kernel_rfl) (by kernel_rfl) (by kernel_rfl) (fun _ _ _ h => h) (Or.inl ⟨by rfl, ?_⟩) (by assumption) ?_
                     rotate_left
                     · (intro w hSw; (try dsimp only at hSw); go_simp <;> (try with_reducible rfl))
                     (try simp only [Act.put, List.setIfInBounds_toArray, List.set_cons_zero, List.set_cons_succ])
                     refine wpAnyH_take (i := 18) (oi := Oper.mk (some 128) _ _ _ _ _) (v := ?_) rfl (by kernel_rfl) (by kernel_rfl) (by kernel_rfl) (fun _ _ _ h => h) (Or.inl ⟨by rfl, ?_⟩) (by assumption) ?_
                     rotate_left
                     · (intro w hSw; (try dsimp only at hSw); go_simp <;> (try with_reducible rfl))
                     (try simp only [Act.put, List.setIfInBounds_toArray, List.set_cons_zero, List.set_cons_succ])
                     refine wpAnyH_take (i := 19) (oi := Oper.mk (some 129) _ _ _ _ _) (v := ?_) rfl (by kernel_rfl) (by kernel_rfl) (by kernel_rfl) (fun _ _ _ h => h) (Or.inl ⟨by rfl, ?_⟩) (by assumption) ?_
                     rotate_left
                     · (intro w hSw; (try dsimp only at hSw); go_simp <;> (try with_reducible rfl))
                     (try simp only [Act.put, List.setIfInBounds_toArray, List.set_cons_zero, List.set_cons_succ])
                     refine wpAnyH_take (i := 20) (oi := Oper.mk (some 130) _ _ _ _ _) (v := ?_) rfl (by kernel_rfl) (by kernel_rfl) (by kernel_rfl) (fun _ _ _ h => h) (Or.inl ⟨by rfl, ?_⟩) (by assumption) ?_
                     rotate_left
                     · (intro w hSw; (try dsimp only at hSw); go_simp <;> (try with_reducible rfl))
                     (try simp only [Act.put, List.setIfInBounds_toArray, List.set_cons_zero, List.set_cons_succ])
                     refine wpAnyH_take (i := 22) (oi := Oper.mk (some 132) _ _ _ _ _) (v := ?_) rfl (by kernel_rfl) (by kernel_rfl) (by kernel_rfl) (fun _ _ _ h => h) (Or.inl ⟨by rfl, ?_⟩) (by assumption) ?_
                     rotate_left
                     · (intro w hSw; (try dsimp only at hSw); go_simp <;> (try with_reducible rfl))
                     (try simp only [Act.put, List.setIfInBounds_toArray, List.set_cons_zero, List.set_cons_succ])
                     refine wpAnyH_ready (rs := [21]) (by kernel_rfl) (by simp) ?_
                     refine AllReadyH.cons (o := Oper.mk (some 131) _ _ _ _ _) rfl (fun K hK => ?_) AllReadyH.nil
                     go_simp
                     (go_at_call 23; refine (qabs_any n10 o10 p10 l10 c10 m10 k10 vy _ (HS.out.1.rat.later (Below.refl _ _).drew) (by have := (HS.out.1.rat.len HVY.out.2.1).1; omega)).mono ?_; rintro e f1 ⟨n15, o15, l15, c15, p15, m15, k15, rfl, hr, hb⟩; have H1 : Hid (RatAt f1 n15 o15 l15 c15 p15 m15 k15 (absR vy)) := hr; clear hr; have hbF1 : Below S.heap.size S f1 := bnext (Below.refl _ _).drew hb; clear hb)
                     (try go_wp2_with fail)
                     clear hHeld
                     refine hK.out _ _ (by (try dsimp only); first | exact KS.out _ (Below.refl _ _).drew | exact KS.out _ (by assumption)) (fun hHeld => ?_)
                     clear hK K
                     (try simp only [Act.put, List.setIfInBounds_toArray, List.set_cons_zero, List.set_cons_succ])
                     refine wpAnyH_ready (rs := [23]) (by kernel_rfl) (by simp) ?_
                     refine AllReadyH.cons (o := Oper.mk (some 133) _ _ _ _ _) rfl (fun K hK => ?_) AllReadyH.nil
                     go_simp
                     (go_at_call 23; refine (qabs_any n5 o5 (some ⟨bx, ox, none⟩) l5 c5 1 k5 vx _ (HS.out.2.1.rat.later hbF1) (by have := (HS.out.2.1.rat.len HV.out.2).1; omega)).mono ?_; rintro e f2 ⟨n16, o16, l16, c16, p16, m16, k16, rfl, hr, hb⟩; have H2 : Hid (RatAt f2 n16 o16 l16 c16 p16 m16 k16 (absR vx) ∧ RatAt f2 n15 o15 l15 c15 p15 m15 k15 (absR vy)) := ⟨hr, H1.out.later hb⟩; clear hr; have hbF2 : Below S.heap.size S f2 := bnext hbF1 hb; clear hb)
                     (try go_wp2_with fail)
                     clear hHeld
                     refine hK.out _ _ (by (try dsimp only); first | exact KS.out _ (Below.refl _ _).drew | exact KS.out _ (by assumption)) (fun hHeld => ?_)
                     clear hK K
                     (try simp only [Act.put, List.setIfInBounds_toArray, List.set_cons_zero, List.set_cons_succ])
                     refine wpAnyH_ready (rs := [24]) (by kernel_rfl) (by simp) ?_
                     refine AllReadyH.cons (o := Oper.mk (some 134) _ _ _ _ _) rfl (fun K hK => ?_) AllReadyH.nil
                     go_simp
                     (go_at_call 28; refine (qcmp_any n15 n16 o15 p15 o16 p16 l15 c15 m15 k15 l16 c16 m16 k16 (absR vy) (absR vx) _ H2.out.2 H2.out.1 ((sz_abs HVY.out.2.1).mono (by decide)) ((sz_abs HV.out.2).mono (by decide)) _ HCC.out).mono ?_; rintro e f3 ⟨rfl, hb⟩; skip; have hbF3 : Below S.heap.size S f3 := bnext hbF2 hb; clear hb)
                     (try go_wp2_with fail)
                     clear hHeld
                     refine hK.out _ _ (by (try dsimp only); first | exact KS.out _ (Below.refl _ _).drew | exact KS.out _ (by assumption)) (fun hHeld => ?_)
                     clear hK K
                     (try simp only [Act.put, List.setIfInBounds_toArray, List.set_cons_zero, List.set_cons_succ])
                     refine wpAnyH_take (i := 25) (oi := Oper.mk (some 135) _ _ _ _ _) (v := ?_) rfl (by kernel_rfl) (by kernel_rfl) (by kernel_rfl) (fun _ _ _ h => h) (Or.inl ⟨by rfl, ?_⟩) (by assumption) ?_
                     rotate_left
                     · (intro w hSw; (try dsimp only at hSw); go_simp <;> (try with_reducible rfl))
                     (try simp only [Act.put, List.setIfInBounds_toArray, List.set_cons_zero, List.set_cons_succ])
                     refine wpAnyH_take (i := 26) (oi := Oper.mk (some 136) _ _ _ _ _) (v := ?_) rfl (by kernel_rfl) (by kernel_rfl) (by kernel_rfl) (fun _ _ _ h => h) (Or.inl ⟨by rfl, ?_⟩) (by assumption) ?_
                     rotate_left
                     · (intro w hSw; (try dsimp only at hSw); go_simp <;> (try with_reducible rfl))
                     (try simp only [Act.put, List.setIfInBounds_toArray, List.set_cons_zero, List.set_cons_succ])
                     refine wpAnyH_take (i := 27) (oi := Oper.mk (some 137) _ _ _ _ _) (v := ?_) rfl (by kernel_rfl) (by kernel_rfl) (by kernel_rfl) (fun _ _ _ h => h) (Or.inl ⟨by rfl, ?_⟩) (by assumption) ?_
                     rotate_left
                     · (intro w hSw; (try dsimp only at hSw); go_simp <;> (try with_reducible rfl))
                     (try simp only [Act.put, List.setIfInBounds_toArray, List.set_cons_zero, List.set_cons_succ])
                     refine wpAnyH_done (by kernel_rfl) ?_ _
                     refine NoPanic.normal ?_
                     go_wp2
                     go_meet
                     exact ⟨rfl, hbF3⟩
                  case rest =>
                   obtain ⟨rfl, hbE⟩ := hcut
                   obtain ⟨E, hE⟩ : ∃ Z, Z = wc := ⟨_, rfl⟩
                   rw [← hE] at hbE
                   rw [← hE]
                   clear hE
                   have HE : Hid (Boxed E r8 n8 o8 l8 c8 ∧ IntAt E n8 o8 l8 c8 (N0 + (k9 : Int)) ∧ (∀ j, E.frozen? ⟨r8, j, none⟩ = false) ∧ Below V.heap.size V E) := (by
                    have h1 := bnext HS.out.2.2.2 hbE
                    exact ⟨HQ.out.1.later h1 hlt8, HQ.out.2.1.later h1, fun j => (h1.frozen (p := ⟨r8, j, none⟩) hlt8).trans (HQ.out.2.2.1 j), bnext HQ.out.2.2.2 h1⟩)
                   have hlt8E : r8 < E.heap.size := cell_lt HE.out.1.1
                   clear hbE HS KS HTH
                   have KT : Hid (∀ w' : World, Below E.heap.size E w' → Hid True) := fun _ _ => trivial
                   have KB : Hid (∀ w' : World, Below E.heap.size E w' → Boxed w' r8 n8 o8 l8 c8 ∧ (∀ j, w'.frozen? ⟨r8, j, none⟩ = false)) := fun w' h => ⟨HE.out.1.later h hlt8E, fun j => (h.frozen (p := ⟨r8, j, none⟩) hlt8E).trans (HE.out.2.2.1 j)⟩
                   go_upto_region 23 with fail
                   refine wp_region_noPanic ?_
                   refine wp_region_held_drew (S := fun w' => (Hid True)) (by kernel_rfl) (by (try dsimp only); exact KT.out _ (Below.refl _ _).drew) (fun hHeld => ?_)
                   refine wpAnyH_ready (rs := [0, 1]) (by kernel_rfl) (by simp) ?_
                   refine AllReadyH.cons (o := Oper.mk (some 138) _ _ _ _ _) rfl (fun K hK => ?_) ?_
                   ·
                    obtain ⟨⟨z0, z1⟩, _⟩ := KB.out _ (Below.refl _ _).drew
                    go_simp
                    clear hHeld
                    refine hK.out _ _ (by (try dsimp only); show Hid True; trivial) (fun hHeld => ?_)
                    clear hK K
                    (try simp only [Act.put, List.setIfInBounds_toArray, List.set_cons_zero, List.set_cons_succ])
                    clear z0 z1
                    refine wpAnyH_ready (rs := [1]) (by kernel_rfl) (by simp) ?_
                    refine AllReadyH.cons (o := Oper.mk (some 139) _ _ _ _ _) rfl (fun K hK => ?_) AllReadyH.nil
                    go_simp
                    (go_at_call 46; refine (rfrom_any 1 _ (by decide) (by decide)).mono ?_; rintro e f1 ⟨n17, o17, l17, c17, rfl, hs, ho, hb⟩; have H1 : Hid (IntAt f1 n17 o17 l17 c17 1) := ho.int hs; have hl17 : l17 ≤ 1 := (by rw [ho.row.hlen]; decide); clear hs ho; have hbF1 : Below E.heap.size E f1 := bnext (Below.refl _ _).drew hb; clear hb)
                    (try go_wp2_with fail)
                    clear hHeld
                    refine hK.out _ _ (by (try dsimp only); show Hid True; trivial) (fun hHeld => ?_)
                    clear hK K
                    (try simp only [Act.put, List.setIfInBounds_toArray, List.set_cons_zero, List.set_cons_succ])
                    refine wpAnyH_ready (rs := [2]) (by kernel_rfl) (by simp) ?_
                    refine AllReadyH.cons (o := Oper.mk (some 140) _ _ _ _ _) rfl (fun K hK => ?_) AllReadyH.nil
                    go_simp
                    (go_at_call 45; refine (rplus_any n8 n17 o8 o17 l8 c8 l17 c17 (N0 + (k9 : Int)) 1 _ (HE.out.2.1.later hbF1) (H1.out.later (Below.refl _ _)) (by omega) (by omega)).mono ?_; rintro e f2 ⟨n18, o18, l18, c18, rfl, hi, hb⟩; have H2 : Hid (IntAt f2 n18 o18 l18 c18 (N0 + (k9 : Int) + 1)) := hi; clear hi; have hbF2 : Below E.heap.size E f2 := bnext hbF1 hb; clear hb)
                    (try go_wp2_with fail)
                    clear hHeld
                    refine hK.out _ _ (by (try dsimp only); show Hid True; trivial) (fun hHeld => ?_)
                    clear hK K
                    (try simp only [Act.put, List.setIfInBounds_toArray, List.set_cons_zero, List.set_cons_succ])
                    obtain ⟨⟨z0, z1⟩, z2⟩ := KB.out _ hbF2
                    refine wpAnyH_ready (rs := [3]) (by kernel_rfl) (by simp) ?_
                    refine AllReadyH.cons (o := Oper.mk none _ _ _ _ _) rfl (fun K hK => ?_) AllReadyH.nil
                    go_simp
                    clear hHeld
                    refine hK.out _ _ (by (try dsimp only); show Hid True; trivial) (fun hHeld => ?_)
                    clear hK K
                    (try simp only [Act.put, List.setIfInBounds_toArray, List.set_cons_zero, List.set_cons_succ])
                    refine wpAnyH_done (by kernel_rfl) ?_ _
                    refine NoPanic.normal ?_
                    have HJ1 := jv_c (n := n18) (o := o18) (l := l18) (c := c18) (r := r8) H2 (bnext HE.out.2.2.2 hbF2) z2 z0 z1 hr8
                    rw [Int.add_assoc] at HJ1
                    have HJ2 := hid_of HJ1
                    clear HJ1 z0 z1 z2
                    go_wp2
                    go_roundw
                    case rel => first | exact ⟨k9 + 1, by omega, by go_num, HJ2.out⟩ | ((repeat apply Exists.intro); exact ⟨⟨k9 + 1, by omega, by go_num, HJ2.out⟩, rfl⟩)
                    case measure => simp [intOf]; omega
                   refine AllReadyH.cons (o := Oper.mk (some 139) _ _ _ _ _) rfl (fun K hK => ?_) ?_
                   ·
                    go_simp
                    (go_at_call 46; refine (rfrom_any 1 _ (by decide) (by decide)).mono ?_; rintro e f1 ⟨n17, o17, l17, c17, rfl, hs, ho, hb⟩; have H1 : Hid (IntAt f1 n17 o17 l17 c17 1) := ho.int hs; have hl17 : l17 ≤ 1 := (by rw [ho.row.hlen]; decide); clear hs ho; have hbF1 : Below E.heap.size E f1 := bnext (Below.refl _ _).drew hb; clear hb)
                    (try go_wp2_with fail)
                    clear hHeld
                    refine hK.out _ _ (by (try dsimp only); show Hid True; trivial) (fun hHeld => ?_)
                    clear hK K
                    (try simp only [Act.put, List.setIfInBounds_toArray, List.set_cons_zero, List.set_cons_succ])
                    obtain ⟨⟨z0, z1⟩, _⟩ := KB.out _ hbF1
                    refine wpAnyH_ready (rs := [0]) (by kernel_rfl) (by simp) ?_
                    refine AllReadyH.cons (o := Oper.mk (some 138) _ _ _ _ _) rfl (fun K hK => ?_) AllReadyH.nil
                    go_simp
                    clear hHeld
                    refine hK.out _ _ (by (try dsimp only); show Hid True; trivial) (fun hHeld => ?_)
                    clear hK K
                    (try simp only [Act.put, List.setIfInBounds_toArray, List.set_cons_zero, List.set_cons_succ])
                    clear z0 z1
                    refine wpAnyH_ready (rs := [2]) (by kernel_rfl) (by simp) ?_
                    refine AllReadyH.cons (o := Oper.mk (some 140) _ _ _ _ _) rfl (fun K hK => ?_) AllReadyH.nil
                    go_simp
                    (go_at_call 45; refine (rplus_any n8 n17 o8 o17 l8 c8 l17 c17 (N0 + (k9 : Int)) 1 _ (HE.out.2.1.later hbF1) (H1.out.later (Below.refl _ _)) (by omega) (by omega)).mono ?_; rintro e f2 ⟨n18, o18, l18, c18, rfl, hi, hb⟩; have H2 : Hid (IntAt f2 n18 o18 l18 c18 (N0 + (k9 : Int) + 1)) := hi; clear hi; have hbF2 : Below E.heap.size E f2 := bnext hbF1 hb; clear hb)
                    (try go_wp2_with fail)
                    clear hHeld
                    refine hK.out _ _ (by (try dsimp only); show Hid True; trivial) (fun hHeld => ?_)
                    clear hK K
                    (try simp only [Act.put, List.setIfInBounds_toArray, List.set_cons_zero, List.set_cons_succ])
                    obtain ⟨⟨z0, z1⟩, z2⟩ := KB.out _ hbF2
                    refine wpAnyH_ready (rs := [3]) (by kernel_rfl) (by simp) ?_
                    refine AllReadyH.cons (o := Oper.mk none _ _ _ _ _) rfl (fun K hK => ?_) AllReadyH.nil
                    go_simp
                    clear hHeld
                    refine hK.out _ _ (by (try dsimp only); show Hid True; trivial) (fun hHeld => ?_)
                    clear hK K
                    (try simp only [Act.put, List.setIfInBounds_toArray, List.set_cons_zero, List.set_cons_succ])
                    refine wpAnyH_done (by kernel_rfl) ?_ _
                    refine NoPanic.normal ?_
                    have HJ1 := jv_c (n := n18) (o := o18) (l := l18) (c := c18) (r := r8) H2 (bnext HE.out.2.2.2 hbF2) z2 z0 z1 hr8
                    rw [Int.add_assoc] at HJ1
                    have HJ2 := hid_of HJ1
                    clear HJ1 z0 z1 z2
                    go_wp2
                    go_roundw
                    case rel => first | exact ⟨k9 + 1, by omega, by go_num, HJ2.out⟩ | ((repeat apply Exists.intro); exact ⟨⟨k9 + 1, by omega, by go_num, HJ2.out⟩, rfl⟩)
                    case measure => simp [intOf]; omega
                   exact AllReadyH.nil
               ·
                obtain rfl : k9 = 2 := by omega
                have HBV : Hid (Below Z2.heap.size Z2 Q) := bnext HL.out.2.2.2.2.2 HQ.out.2.2.2
                clear hQ hb8 hi8 hf8 hbQ hk2 hk9
                have hwu : IntKind.u64.wrap ((d9 : Int) + 1) = (d9 : Int) + 1 := by have h60 : (d9 : Int) ≤ 60 := (by omega); have h0 : (0 : Int) ≤ (d9 : Int) := (by omega); generalize (d9 : Int) = z at h60 h0; unfold IntKind.wrap; simp [IntKind.bits, IntKind.signed]; omega
                go_wp2
                go_roundw
                case rel => first | exact ⟨d9 + 1, by omega, by omega, by go_num, HBV.out⟩ | exact ⟨d9 + 1, by omega, by omega, congrArg (Value.int .u64) (by omega), HBV.out⟩ | ((repeat apply Exists.intro); exact ⟨⟨d9 + 1, by omega, by omega, by go_num, HBV.out⟩, rfl⟩)
                case measure => simp [intOf]; omega
            ·
             have hg9 : decide ((d9 : Int) ≤ (D : Int)) = false := decide_eq_false (by omega)
             have HBW : Hid (Below W.heap.size W V) := bnext HZ.out.2.1 HL.out.2.2.2.2.2
             have hdD' : D < d9 := by omega
             go_wp2
             go_roundw
             case rel => first | exact ⟨k + 1, by omega, by omega, by go_num, bnext HTW.out.2 HBW.out⟩ | ((repeat apply Exists.intro); exact ⟨⟨k + 1, by omega, by omega, by go_num, bnext HTW.out.2 HBW.out⟩, rfl⟩)
             case measure => simp [intOf]; omega
          ·
           have hg60 : decide ((60 : Int) < (D : Int)) = true := decide_eq_true (by omega)
           clear hD60
           go_wp2
           go_roundw
           case rel => first | exact ⟨k + 1, by omega, by omega, by go_num, bnext HTW.out.2 HZ.out.2.1⟩ | ((repeat apply Exists.intro); exact ⟨⟨k + 1, by omega, by omega, by go_num, bnext HTW.out.2 HZ.out.2.1⟩, rfl⟩)
           case measure => simp [intOf]; omega
         ·
          have h51' : ((m5 : Int) != 1) = true := by simp; omega
          clear h51 hm5
          go_wp2
          go_roundw
          case rel => first | exact ⟨k + 1, by omega, by omega, by go_num, bnext HTW.out.2 HZ.out.2.1⟩ | ((repeat apply Exists.intro); exact ⟨⟨k + 1, by omega, by omega, by go_num, bnext HTW.out.2 HZ.out.2.1⟩, rfl⟩)
          case measure => simp [intOf]; omega
     ·
      have HC : Hid (cmpQ va vb = 1) := cmpQ_nle hle
      clear hle
      go_wp2_with (first
       | (go_at_call 28; refine (qcmp_any na nb ao po bo qo la ca lp cp lb cb lq cq va vb _ (HA.out.1.later hb2) (HA.out.2.1.later hb2) (HA.out.2.2.1.mono (by decide)) (HA.out.2.2.2.mono (by decide)) 1 HC.out).mono ?_; rintro e w3 ⟨rfl, hb3'⟩; have hb3 := bnext hb2 hb3'; clear hb3' q0 q1 q2 q3 q4 q5 q6)
       | (go_at_call 27; refine (two2_any na nb ao po bo qo la ca lp cp lb cb lq cq N x d y f _ (HX.out.1.later hb1) HWd.out.1 (HX.out.2.1.later hb1) HWd.out.2.1 (HX.out.2.2.1.later hb1) HWd.out.2.2.1 (HX.out.2.2.2.later hb1) HWd.out.2.2.2 (by omega) (by omega) (by omega) (by omega) 0 HM2.out).mono ?_; rintro e w2 ⟨rfl, hb2'⟩; have hb2 := bnext hb1 hb2'; clear hb2'; clear q0 q1 q2 q3 q4 q5 q6; obtain ⟨q0, q1, q2, q3, q4, q5, q6⟩ := HP0.out.later hb2 hpW)
       | (go_at_call 6; refine (heavyR_any na nb ao po bo qo la ca lp cp lb cb lq cq N _ false HH.out).mono ?_; rintro e w1 ⟨rfl, hb1⟩; clear q0 q1 q2 q3 q4 q5 q6; obtain ⟨q0, q1, q2, q3, q4, q5, q6⟩ := HP0.out.later hb1 hpW))
      go_roundw
      case rel => first | exact ⟨k + 1, by omega, by omega, by go_num, bnext HTW.out.2 hb3⟩ | ((repeat apply Exists.intro); exact ⟨⟨k + 1, by omega, by omega, by go_num, bnext HTW.out.2 hb3⟩, rfl⟩)
      case measure => simp [intOf]; omega
   ·
    have HH : Hid (((decide ((8 : Int) < (la : Int)) || decide ((8 : Int) < (lp : Int))) || (decide ((8 : Int) < (lb : Int)) || decide ((8 : Int) < (lq : Int)))) = true) := hhv
    clear hhv
    go_wp2_with (go_at_call 6; refine (heavyR_any na nb ao po bo qo la ca lp cp lb cb lq cq N _ true HH.out).mono ?_; rintro e w1 ⟨rfl, hb1⟩)
    go_ret
    exact ⟨rfl, bnext HTW.out.2 hb1⟩
  ·
   have hwk : ∀ X, Below w.heap.size w X → Calls Tryz.prog 32 #[] X fun e w' => e = .returned (.bool true) ∧ Below X.heap.size X w' := fun X h => wakes2_any X (tab_later HT.out.1 h) (HT.out.2.later h)
   have hend : ¬ k < len ∨ k = 30 := by omega
   clear hlt
   rcases hend with he | he
   ·
    go_wp2_with (go_at_call 32; refine (hwk _ hbel).mono ?_; rintro e w9 ⟨rfl, hb9⟩)
    go_ret
    exact ⟨rfl, bnext hbel hb9⟩
   ·
    subst he
    by_cases hq : 30 < len
    ·
     go_wp2_with (go_at_call 32; refine (hwk _ hbel).mono ?_; rintro e w9 ⟨rfl, hb9⟩)
     go_ret
     exact ⟨rfl, bnext hbel hb9⟩
    ·
     go_wp2_with (go_at_call 32; refine (hwk _ hbel).mono ?_; rintro e w9 ⟨rfl, hb9⟩)
     go_ret
     exact ⟨rfl, bnext hbel hb9⟩
end Go.Proofs.YtiiefpnkpfliiaaGreatDoor
