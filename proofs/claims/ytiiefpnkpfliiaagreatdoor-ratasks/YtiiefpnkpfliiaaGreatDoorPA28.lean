/-
  Walks: the page's Dyadic and Floor. (gen/rasks1.py)
-/
import Derived.Test.YtiiefpnkpfliiaaGreatDoorPA22
import Derived.Test.YtiiefpnkpfliiaaGreatDoorPA25
import Derived.Test.YtiiefpnkpfliiaaGreatDoorPA27
namespace Go.Proofs.YtiiefpnkpfliiaaGreatDoor
open Go.RowKit
set_option linter.unusedVariables false
set_option linter.unusedSimpArgs false
theorem nlen_bel (ao : Option Addr) (len cap n : Nat) (w : World) (hr : RowAt w .u64 ao len cap (mag n)) (hl : len ≤ 4294967296) (c : Int) (hc : rowBits len (dig (mag n) (len - 1)) = c) :
    Calls Tryz.prog 64 #[.slice ao len cap] w fun e w' => e = .returned (.int .i64 c) ∧ Below w.heap.size w w' := by
  subst hc
  exact (nlen_any ao len cap (mag n) w hr (mag_wd _) hl).mono fun e w' ⟨h1, h2⟩ => ⟨h1, by rw [h2]; exact Below.refl _ _⟩
theorem dy_math {n m L : Nat} {b : Bool} (hL : (L : Int) - 1 = (m : Int)) (h3 : 2 ^ (L - 1) ≤ n) (h4 : n < 2 ^ L) (hb : (∃ k, n = 2 ^ k) ↔ b = true) : (cmpI (n : Int) ((1 * 2 ^ m : Nat) : Int) == 0) = b := by
  have e : L - 1 = m := by omega
  rw [e] at h3
  rw [Nat.one_mul]
  cases b
  · have hne : n ≠ 2 ^ m := fun h => by have := hb.1 ⟨m, h⟩; cases this
    have : cmpI (n : Int) ((2 ^ m : Nat) : Int) = 1 := by
      unfold cmpI; rw [if_neg (by omega), if_pos (by omega)]
    rw [this]; rfl
  · obtain ⟨k, hk⟩ := hb.2 rfl
    have h5 : k < L := (Nat.pow_lt_pow_iff_right (by decide : 1 < 2)).1 (by rw [← hk]; exact h4)
    have h6 : m ≤ k := (Nat.pow_le_pow_iff_right (by decide : 1 < 2)).1 (by rw [← hk]; exact h3)
    have h7 : k = m := by omega
    have : cmpI (n : Int) ((2 ^ m : Nat) : Int) = 0 := by
      rw [hk, h7]; unfold cmpI; rw [if_neg (by omega), if_neg (by omega)]
    rw [this]; rfl
set_option maxRecDepth 100000 in
set_option maxHeartbeats 4000000 in
theorem qdyadic_any (na : Bool) (ao po : Option Addr) (la ca lp cp : Nat) (a : Rat) (w : World) (hx : RatAt w na ao la ca po lp cp a) (hl' : lp ≤ 1000) (b : Bool) (hb : (∃ k, a.den = 2 ^ k) ↔ b = true) :
    Calls Tryz.prog 20 #[.agg #[.bool na, .slice ao la ca, .slice po lp cp]] w fun e w' => e = .returned (.bool b) ∧ Below w.heap.size w w' := by
  obtain ⟨W, hT⟩ := ROne1.mk' w na ao po la ca lp cp
  have hsz := hT.size
  obtain ⟨L, hL, hL1, hL2, hL3, hL4⟩ := row_bits a.den_pos hx.den.hlen
  obtain ⟨m, hm⟩ : ∃ m : Nat, (L : Int) - 1 = (m : Int) := ⟨L - 1, by omega⟩
  obtain ⟨c, hc⟩ : ∃ c, cmpI (a.den : Int) ((1 * 2 ^ m : Nat) : Int) = c := ⟨_, rfl⟩
  have hcb : (c == 0) = b := by rw [← hc]; exact dy_math hm hL3 hL4 hb
  have hLb : L ≤ 64000 := by omega
  have hmb : m ≤ 64000 := by omega
  have hwm : IntKind.i64.wrap (m : Int) = (m : Int) := by (try unfold wrap64); (try simp only [IntKind.wrap_i64]); omega
  have HX : Hid (RatAt W na ao la ca po lp cp a ∧ rowBits lp (dig (mag a.den) (lp - 1)) = (L : Int) ∧ cmpI (a.den : Int) ((1 * 2 ^ m : Nat) : Int) = c ∧ Below w.heap.size w W) := ⟨hx.later hT.below, hL, hc, hT.below⟩
  have HU2 : Hid ((mag (1 * 2 ^ m)).length ≤ 64000) := by
    have h1 : (mag (1 * 2 ^ m)).length ≤ (mag a.den).length := mag_len_mono (by rw [Nat.one_mul, show m = L - 1 by omega]; exact hL3)
    have h2 := hx.den.hlen
    show _ ≤ _; omega
  have KW : Hid (∀ w' : World, Below W.heap.size W w' → w'.cell? ⟨w.heap.size, 0, none⟩ = some (.bool na) ∧ w'.cell? ⟨w.heap.size, 1, none⟩ = some (.slice ao la ca) ∧ w'.cell? ⟨w.heap.size, 2, none⟩ = some (.slice po lp cp)) := fun w' h => ⟨(h.cell (p := ⟨w.heap.size, 0, none⟩) (by show w.heap.size < _; omega)).trans hT.a.1, (h.cell (p := ⟨w.heap.size, 1, none⟩) (by show w.heap.size < _; omega)).trans hT.a.2.1, (h.cell (p := ⟨w.heap.size, 2, none⟩) (by show w.heap.size < _; omega)).trans hT.a.2.2⟩
  clear hx hb hL hL2 hL3 hL4 hc
  go_enter Tryz.func20, Tryz.ntmps20
  go_upto_region 1 with fail
  rw [← hT.eq]
  clear hT
  have hzU : W.heap.size ≤ W.drew.heap.size := Nat.le_refl _
  have S0 : Step8 0 := ⟨trivial⟩
  go_region_held3 (fun w' => (w'.cell? ⟨w.heap.size, 0, none⟩ = some (.bool na) ∧ w'.cell? ⟨w.heap.size, 1, none⟩ = some (.slice ao la ca) ∧ w'.cell? ⟨w.heap.size, 2, none⟩ = some (.slice po lp cp)))
    (with_reducible (first | exact KW.out _ (Below.refl _ _).drew | exact KW.out _ (by assumption) | (refine KW.out _ ?_; (repeat (first | refine below_alloc ?_ (Nat.le_refl _) | refine Below.drew ?_ | refine below_set ?_ (by omega))); (first | exact hbF4 | exact hbF3 | exact hbF2 | exact hbF1 | exact Below.refl _ _))))
    (first
      | (have _t := S0; go_at_call 63; refine with_held (S := fun w9 => Below W.heap.size W w9) (by show Below _ _ _; with_reducible ((repeat (first | refine below_alloc ?_ (Nat.le_refl _) | refine Below.drew ?_ | refine below_set ?_ (by omega))); (first | exact hbF4 | exact hbF3 | exact hbF2 | exact hbF1 | exact Below.refl _ _))) (fun hS => ?_); refine (nof_any 1 _ (by decide)).mono ?_; rintro e f1 ⟨o1, l1, c1, rfl, ho, hb⟩; have H1 : Hid (RowAt f1 .u64 o1 l1 c1 (mag 1)) := ho.row; have hl1 : l1 ≤ 1 := (by rw [ho.row.hlen]; decide); clear ho; have hbF1 : Below W.heap.size W f1 := bnext hS hb; have hzF1 := hbF1.size; clear hS hb S0; have S1 : Step8 1 := ⟨trivial⟩)
      | (have _t := S1; go_at_call 64; refine with_held (S := fun w9 => Below W.heap.size W w9) (by show Below _ _ _; with_reducible ((repeat (first | refine below_alloc ?_ (Nat.le_refl _) | refine Below.drew ?_ | refine below_set ?_ (by omega))); (first | exact hbF4 | exact hbF3 | exact hbF2 | exact hbF1 | exact Below.refl _ _))) (fun hS => ?_); refine with_held (S := fun w9 => Below f1.heap.size f1 w9) (by show Below _ _ _; with_reducible ((repeat (refine below_alloc ?_ (Nat.le_refl _))); exact Below.refl _ _)) (fun hS2 => ?_); refine (nlen_bel po lp cp a.den _ (HX.out.1.den.later hS) (by omega) (L : Int) HX.out.2.1).mono ?_; rintro e f2 ⟨rfl, hb⟩; have H2 : Hid (RowAt f2 .u64 o1 l1 c1 (mag 1)) := H1.out.later (bnext hS2 hb); have hbF2 : Below W.heap.size W f2 := bnext hS hb; have hzF2 := hbF2.size; clear hS hb S1; clear hS2; have S2 : Step8 2 := ⟨trivial⟩)
      | (have _t := S2; go_at_call 62; refine with_held (S := fun w9 => Below W.heap.size W w9) (by show Below _ _ _; with_reducible ((repeat (first | refine below_alloc ?_ (Nat.le_refl _) | refine Below.drew ?_ | refine below_set ?_ (by omega))); (first | exact hbF4 | exact hbF3 | exact hbF2 | exact hbF1 | exact Below.refl _ _))) (fun hS => ?_); refine with_held (S := fun w9 => Below f2.heap.size f2 w9) (by show Below _ _ _; with_reducible ((repeat (refine below_alloc ?_ (Nat.le_refl _))); exact Below.refl _ _)) (fun hS2 => ?_); refine (up2_any o1 l1 c1 m 1 _ (H2.out.later hS2) (by omega) (by omega)).mono ?_; rintro e f3 ⟨o3, l3, c3, rfl, ho, hb⟩; have H3 : Hid (RowAt f3 .u64 o3 l3 c3 (mag (1 * 2 ^ m))) := ho.row; have hl3 : l3 ≤ 64000 := (by rw [ho.row.hlen]; exact HU2.out); clear ho; have hbF3 : Below W.heap.size W f3 := bnext hS hb; have hzF3 := hbF3.size; clear hS hb S2; clear hS2; have S3 : Step8 3 := ⟨trivial⟩)
      | (have _t := S3; go_at_call 61; refine with_held (S := fun w9 => Below W.heap.size W w9) (by show Below _ _ _; with_reducible ((repeat (first | refine below_alloc ?_ (Nat.le_refl _) | refine Below.drew ?_ | refine below_set ?_ (by omega))); (first | exact hbF4 | exact hbF3 | exact hbF2 | exact hbF1 | exact Below.refl _ _))) (fun hS => ?_); refine with_held (S := fun w9 => Below f3.heap.size f3 w9) (by show Below _ _ _; with_reducible ((repeat (refine below_alloc ?_ (Nat.le_refl _))); exact Below.refl _ _)) (fun hS2 => ?_); refine (ncmp_at po o3 lp cp l3 c3 a.den (1 * 2 ^ m) _ (HX.out.1.den.later hS) (H3.out.later hS2) (by omega) (by omega) c HX.out.2.2.1).mono ?_; rintro e f4 ⟨rfl, hb⟩; skip; have hbF4 : Below W.heap.size W f4 := bnext hS hb; have hzF4 := hbF4.size; clear hS hb S3; clear hS2; skip))
  all_goals go_wp2
  go_ret
  exact ⟨rfl, bnext HX.out.2.2.2 hbF4⟩
set_option maxRecDepth 100000 in
set_option maxHeartbeats 4000000 in
theorem qfloor_any (na : Bool) (ao po : Option Addr) (la ca lp cp : Nat) (a : Rat) (w : World) (hx : RatAt w na ao la ca po lp cp a) (hl : la ≤ 1000) (hl' : lp ≤ 1000) :
    Calls Tryz.prog 24 #[.agg #[.bool na, .slice ao la ca, .slice po lp cp]] w fun e w' => RefInt w w' e (a.num / (a.den : Int)) := by
  obtain ⟨W, hT⟩ := RI2.mk' w na ao po la ca lp cp
  have hsz : w.heap.size + 2 ≤ W.heap.size := by rw [hT.size]; exact Nat.le_refl _
  have HX : Hid (RatAt W na ao la ca po lp cp a) := hx.later hT.below
  have hd : (a.den : Int) ≠ 0 := by have := a.den_pos; omega
  have KW : Hid (∀ w' : World, Below W.heap.size W w' → (Below W.heap.size W w' ∧ w'.cell? ⟨w.heap.size, 0, none⟩ = some (.bool na) ∧ w'.cell? ⟨w.heap.size, 1, none⟩ = some (.slice ao la ca) ∧ w'.cell? ⟨w.heap.size, 2, none⟩ = some (.slice po lp cp))) := fun w' h => ⟨h, (h.cell (p := ⟨w.heap.size, 0, none⟩) (by show w.heap.size < _; omega)).trans hT.a.1, (h.cell (p := ⟨w.heap.size, 1, none⟩) (by show w.heap.size < _; omega)).trans hT.a.2.1, (h.cell (p := ⟨w.heap.size, 2, none⟩) (by show w.heap.size < _; omega)).trans hT.a.2.2⟩
  have HF : Hid (Fresh W (w.heap.size + 1) ∧ Below w.heap.size w W) := ⟨hT.r, hT.below⟩
  obtain ⟨vq, hvq⟩ : ∃ q : Int, a.num / (a.den : Int) = q := ⟨_, rfl⟩
  rw [hvq]
  have HQ : Hid (a.num / (a.den : Int) = vq) := hvq
  clear hx hvq
  go_enter Tryz.func24, Tryz.ntmps24
  go_upto_region 1 with fail
  rw [← hT.eq]
  clear hT
  go_cut [3, 4] (fun s3 s4 wx => ∃ r3 r4, s3 = .pointer (some ⟨r3, 0, none⟩) ∧ s4 = .pointer (some ⟨r4, 0, none⟩) ∧ ∃ vr, TwoV W wx r3 r4 vq vr)
  case first => as_aux_lemma =>
    have hzU : W.heap.size ≤ W.drew.heap.size := Nat.le_refl _
    have S0 : Step8 0 := ⟨trivial⟩
    go_region_held3 (fun w' => (Below W.heap.size W w' ∧ w'.cell? ⟨w.heap.size, 0, none⟩ = some (.bool na) ∧ w'.cell? ⟨w.heap.size, 1, none⟩ = some (.slice ao la ca) ∧ w'.cell? ⟨w.heap.size, 2, none⟩ = some (.slice po lp cp)))
      (with_reducible (first | exact KW.out _ (Below.refl _ _).drew | exact KW.out _ (by assumption) | (refine KW.out _ ?_; (repeat (first | refine below_alloc ?_ (Nat.le_refl _) | refine Below.drew ?_ | refine below_set ?_ (by omega))); (first | exact hbF2 | exact hbF1 | exact Below.refl _ _))))
      (first
        | (have _t := S0; go_at_call 69; refine with_held (S := fun w9 => Below W.heap.size W w9) (by show Below _ _ _; with_reducible ((repeat (first | refine below_alloc ?_ (Nat.le_refl _) | refine Below.drew ?_ | refine below_set ?_ (by omega))); (first | exact hbF2 | exact hbF1 | exact Below.refl _ _))) (fun hS => ?_); (first | (with_reducible refine with_held (S := fun w9 => Fresh w9 W.heap.size ∧ Fresh w9 (W.heap.size + 1)) ⟨(Fresh.drew' (Fresh.alloc' (Fresh.new W))), (Fresh.drew' (Fresh.new1 W))⟩ (fun FAB => ?_); have FA := FAB.1; have FB := FAB.2; clear FAB; have hAB : W.heap.size ≠ W.heap.size + 1 := (by omega); have hBA := Ne.symm hAB) | (with_reducible refine with_held (S := fun w9 => Fresh w9 W.heap.size) (Fresh.drew' (Fresh.new W)) (fun FA => ?_)) | skip); refine (qden_any na ao po la ca lp cp _ (by omega)).mono ?_; rintro e f1 ⟨rfl, hb⟩; skip; have hbF1 : Below W.heap.size W f1 := bnext hS hb; have hzF1 := hbF1.size; (try replace FA := Fresh.next FA hb); (try replace FB := Fresh.next FB hb); clear hS hb S0; have S1 : Step8 1 := ⟨trivial⟩)
        | (have _t := S1; go_at_call 68; refine with_held (S := fun w9 => Below W.heap.size W w9) (by show Below _ _ _; with_reducible ((repeat (first | refine below_alloc ?_ (Nat.le_refl _) | refine Below.drew ?_ | refine below_set ?_ (by omega))); (first | exact hbF2 | exact hbF1 | exact Below.refl _ _))) (fun hS => ?_); refine with_held (S := fun w9 => Below f1.heap.size f1 w9) (by show Below _ _ _; with_reducible ((repeat (refine below_alloc ?_ (Nat.le_refl _))); exact Below.refl _ _)) (fun hS2 => ?_); (first | (with_reducible refine with_held (S := fun w9 => Fresh w9 f1.heap.size ∧ Fresh w9 (f1.heap.size + 1)) ⟨(Fresh.alloc' (Fresh.new f1)), (Fresh.new1 f1)⟩ (fun FAB => ?_); have FA := FAB.1; have FB := FAB.2; clear FAB; have hAB : f1.heap.size ≠ f1.heap.size + 1 := (by omega); have hBA := Ne.symm hAB) | (have hAB := Nat.ne_of_lt (cell_lt FA.2.1); dsimp only at hAB; have hBA := Ne.symm hAB; with_reducible refine with_held (S := fun w9 => Fresh w9 f1.heap.size ∧ Fresh w9 _) ⟨Fresh.new f1, Fresh.alloc' FA⟩ (fun FAB => ?_); have FB := FAB.1; replace FA := FAB.2; clear FAB) | (with_reducible refine with_held (S := fun w9 => Fresh w9 f1.heap.size) (Fresh.new f1) (fun FA => ?_)) | skip); refine (rdivide_any na false ao po la ca lp cp a.num (a.den : Int) _ (HX.out.num.later hS) (row_int (HX.out.den.later hS)) (by omega) (by omega) hd).mono ?_; rintro e f2 ⟨q5, vr, hfl, n1, o1, l1, c1, n2, o2, l2, c2, rfl, hi1, hi2, hb⟩; have hq5 : q5 = vq := (hfl.pos (by have := a.den_pos; omega)).1.trans HQ.out; subst hq5; have H2 : Hid (IntAt f2 n1 o1 l1 c1 q5 ∧ IntAt f2 n2 o2 l2 c2 vr) := ⟨hi1, hi2⟩; clear hi1 hi2 hfl; have hbF2 : Below W.heap.size W f2 := bnext hS hb; have hzF2 := hbF2.size; (try replace FA := Fresh.next FA hb); (try replace FB := Fresh.next FB hb); (try (have hltA := cell_lt FA.2.1; dsimp only at hltA; have hneA := Nat.ne_of_lt hltA; have hneA2 := Ne.symm hneA; obtain ⟨a5, a3, a4⟩ := FA)); (try (have hltB := cell_lt FB.2.1; dsimp only at hltB; have hneB := Nat.ne_of_lt hltB; have hneB2 := Ne.symm hneB; obtain ⟨b5, b3, b4⟩ := FB)); clear hS hb S1; clear hS2; skip))
    all_goals go_wp2
    all_goals go_meet
    all_goals refine ⟨_, _, rfl, rfl, vr, ?_⟩
    all_goals (first
      | (with_reducible exact tv_a H2 hbF2)
      | (with_reducible exact tv_b H2 hbF2)
      | ((with_reducible refine tv_c H2 hbF2 ?_ ?_) <;> (first | (with_reducible exact fresh_mk a5 a3 a4) | (with_reducible exact fresh_mk b5 b3 b4) | omega))
      | ((with_reducible refine tv_d H2 hbF2 ?_ ?_) <;> (first | (with_reducible exact fresh_mk a5 a3 a4) | (with_reducible exact fresh_mk b5 b3 b4) | omega))
      | ((with_reducible refine tv_e H2 hbF2 ?_ ?_ ?_ ?_ ?_) <;> (first | (with_reducible exact fresh_mk a5 a3 a4) | (with_reducible exact fresh_mk b5 b3 b4) | omega)))
  case rest => as_aux_lemma =>
    obtain ⟨r3, r4, rfl, rfl, vr, n1, o1, l1, c1, n2, o2, l2, c2, x1, x2, ⟨⟨hr3, hr4⟩, hU3, hU4⟩, hi1, hi2, hbV⟩ := hcut
    obtain ⟨Y, hY⟩ : ∃ Z0, Z0 = wc := ⟨_, rfl⟩
    subst hY
    obtain ⟨y0, y1⟩ := x1
    obtain ⟨g5, g3, g4⟩ := HF.out.1.later hbV (by omega)
    have HY : Hid (IntAt Y n1 o1 l1 c1 vq ∧ Below w.heap.size w Y) := ⟨hi1, bnext HF.out.2 hbV⟩
    clear hi1 hi2 hbV x2
    go_wp2
    exact bodyPost_ret (v := .agg #[.bool n1, .slice o1 l1 c1]) (by simp [results, Tryz.results24, go_sem, g3, g4]) rfl
      ⟨_, _, _, _, rfl, int_kept HY.out.1 ⟨g5, g3, g4⟩, below_store HY.out.2 (by omega) _ _⟩
end Go.Proofs.YtiiefpnkpfliiaaGreatDoor
/-
  Walks: what is no rational's text; the page's reading and writing. (gen/rread.py)
-/
namespace Go.Proofs.YtiiefpnkpfliiaaGreatDoor
open Go.RowKit
set_option linter.unusedVariables false
set_option linter.unusedSimpArgs false
set_option maxRecDepth 100000 in
set_option maxHeartbeats 2000000 in
theorem isWhole_any (na : Bool) (ao po : Option Addr) (la ca lp cp : Nat) (d : Nat) (w : World) (hr : RowAt w .u64 po lp cp (mag d)) (b : Bool) (hb : decide (d = 1) = b) :
    Calls Tryz.prog 19 #[.agg #[.bool na, .slice ao la ca, .slice po lp cp]] w fun e w' => e = .returned (.bool b) ∧ Below w.heap.size w w' := by
  obtain ⟨W, hT⟩ := ROne1.mk' w na ao po la ca lp cp
  have HB : Hid (Below w.heap.size w (w.alloc (.cells #[.bool na, .slice ao la ca, .slice po lp cp] 28))) := hT.eq ▸ hT.below
  clear hT
  by_cases h1 : lp = 1
  · subst h1
    obtain ⟨g, off, rfl, hlt, hc⟩ := hr.get (by decide)
    have hcell := hc 0 (by decide)
    rw [one_limb hr.hlen.symm, Nat.add_zero] at hcell
    have HQ : Hid (((d : Int) == 1) = b) := by
      show _ = _
      rw [← hb]
      by_cases e : d = 1
      · subst e; rfl
      · rw [decide_eq_false e]; simp; omega
    clear hc hr hb
    go_enter Tryz.func19, Tryz.ntmps19
    go_wp2
    go_ret
    exact ⟨ret_bool HQ.out, HB.out⟩
  · have e : d ≠ 1 := fun e => by subst e; have := hr.hlen; rw [one_word] at this; exact h1 this
    obtain rfl : b = false := by rw [← hb]; exact decide_eq_false e
    have hne : ((lp : Int) == 1) = false := by simp; omega
    clear hr hb
    go_enter Tryz.func19, Tryz.ntmps19
    go_wp2
    go_ret
    exact ⟨rfl, HB.out⟩
end Go.Proofs.YtiiefpnkpfliiaaGreatDoor
/-
  What is too long for a round.
-/
namespace Go.Proofs.YtiiefpnkpfliiaaGreatDoor
open Go.RowKit
set_option linter.unusedVariables false
set_option linter.unusedSimpArgs false
set_option maxRecDepth 100000 in
set_option maxHeartbeats 1000000 in
theorem heavyR_any (na nb : Bool) (ao po bo qo : Option Addr) (la ca lp cp lb cb lq cq : Nat) (N : Int) (w : World) (c : Bool) (hc : ((decide ((8 : Int) < (la : Int)) || decide ((8 : Int) < (lp : Int))) || (decide ((8 : Int) < (lb : Int)) || decide ((8 : Int) < (lq : Int)))) = c) :
    Calls Tryz.prog 6 #[.agg #[.bool na, .slice ao la ca, .slice po lp cp, .bool nb, .slice bo lb cb, .slice qo lq cq, .int .i64 N]] w fun e w' => e = .returned (.bool c) ∧ Below w.heap.size w w' := by
  obtain ⟨W, hT⟩ := InR.mk' w na nb ao po bo qo la ca lp cp lb cb lq cq N
  have hsz := hT.size
  cases h1 : (decide ((8 : Int) < (la : Int)) || decide ((8 : Int) < (lp : Int)))
  · have HC : Hid ((decide ((8 : Int) < (lb : Int)) || decide ((8 : Int) < (lq : Int))) = c) := by show _ = _; rw [← hc, h1, Bool.false_or]
    have H1 : Hid ((decide ((8 : Int) < (la : Int)) || decide ((8 : Int) < (lp : Int))) = false) := h1
    clear h1 hc
    go_enter Tryz.func6, Tryz.ntmps6
    go_wp2_with (first
      | (go_at_call 47; have _t := hb1; refine (longRat_any nb bo qo lb cb lq cq 8 _ c HC.out).mono ?_; rintro e w2 ⟨rfl, hb2⟩)
      | (go_at_call 47; rw [← hT.eq]; refine (longRat_any na ao po la ca lp cp 8 _ false H1.out).mono ?_; rintro e w1 ⟨rfl, hb1⟩; obtain ⟨q0, q1, q2, q3, q4, q5, q6⟩ := hT.p.later hb1 (by omega)))
    go_ret
    exact ⟨rfl, bnext hT.below (bnext hb1 hb2)⟩
  · obtain rfl : c = true := by rw [← hc, h1]; rfl
    have H1 : Hid ((decide ((8 : Int) < (la : Int)) || decide ((8 : Int) < (lp : Int))) = true) := h1
    clear h1 hc
    go_enter Tryz.func6, Tryz.ntmps6
    go_wp2_with (go_at_call 47; rw [← hT.eq]; refine (longRat_any na ao po la ca lp cp 8 _ true H1.out).mono ?_; rintro e w1 ⟨rfl, hb1⟩)
    go_ret
    exact ⟨rfl, bnext hT.below hb1⟩
end Go.Proofs.YtiiefpnkpfliiaaGreatDoor
