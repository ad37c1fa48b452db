/-
  Walks: what rat's asking calls refuse; Whole, Dyadic, Neg, Abs; the page's. (gen/rasks0.py)
-/
import Derived.Test.YtiiefpnkpfliiaaGreatDoorPB19
import Derived.Test.YtiiefpnkpfliiaaGreatDoorPB20
import Derived.Test.YtiiefpnkpfliiaaGreatDoorPB23
import Derived.Test.YtiiefpnkpfliiaaGreatDoorPB24
import Derived.Test.YtiiefpnkpfliiaaGreatDoorPB25
namespace Go.Proofs.YtiiefpnkpfliiaaGreatDoor
open Go.RowKit
set_option linter.unusedVariables false
set_option linter.unusedSimpArgs false
/-- without its sign -/
def absR (a : Rat) : Rat := ⟨(a.num.natAbs : Int), a.den, a.den_nz, by rw [Int.natAbs_natCast]; exact a.reduced⟩
theorem absR_num (a : Rat) : (absR a).num = (a.num.natAbs : Int) := rfl
set_option maxRecDepth 100000 in
set_option maxHeartbeats 4000000 in
theorem qcmp_any (na nb : Bool) (ao po bo qo : Option Addr) (la ca lp cp lb cb lq cq : Nat) (a b : Rat) (w : World) (hx : RatAt w na ao la ca po lp cp a) (hy : RatAt w nb bo lb cb qo lq cq b) (ha : Sz a 1000) (hb : Sz b 1000) (c : Int) (hc : cmpQ a b = c) :
    Calls Tryz.prog 28 #[.agg #[.bool na, .slice ao la ca, .slice po lp cp], .agg #[.bool nb, .slice bo lb cb, .slice qo lq cq]] w fun e w' => e = .returned (.int .i64 c) ∧ Below w.heap.size w w' := by
  obtain ⟨W, hT⟩ := RTwo2.mk' w na nb ao po bo qo la ca lp cp lb cb lq cq
  have hsz := hT.size
  have HX : Hid (RatAt W na ao la ca po lp cp a ∧ RatAt W nb bo lb cb qo lq cq b ∧ Below w.heap.size w W) := ⟨hx.later hT.below, hy.later hT.below, hT.below⟩
  have hla : la ≤ 1000 := (hx.len ha).1
  have hlp : lp ≤ 1000 := (hx.len ha).2
  have hlb : lb ≤ 1000 := (hy.len hb).1
  have hlq : lq ≤ 1000 := (hy.len hb).2
  have KW : Hid (∀ w' : World, Below W.heap.size W w' → w'.cell? ⟨w.heap.size, 0, none⟩ = some (.bool na) ∧ w'.cell? ⟨w.heap.size, 1, none⟩ = some (.slice ao la ca) ∧ w'.cell? ⟨w.heap.size, 2, none⟩ = some (.slice po lp cp) ∧ w'.cell? ⟨w.heap.size + 1, 0, none⟩ = some (.bool nb) ∧ w'.cell? ⟨w.heap.size + 1, 1, none⟩ = some (.slice bo lb cb) ∧ w'.cell? ⟨w.heap.size + 1, 2, none⟩ = some (.slice qo lq cq)) := fun w' h => ⟨(h.cell (p := ⟨w.heap.size, 0, none⟩) (by show w.heap.size < _; omega)).trans hT.a.1, (h.cell (p := ⟨w.heap.size, 1, none⟩) (by show w.heap.size < _; omega)).trans hT.a.2.1, (h.cell (p := ⟨w.heap.size, 2, none⟩) (by show w.heap.size < _; omega)).trans hT.a.2.2, (h.cell (p := ⟨w.heap.size + 1, 0, none⟩) (by show w.heap.size + 1 < _; omega)).trans hT.b.1, (h.cell (p := ⟨w.heap.size + 1, 1, none⟩) (by show w.heap.size + 1 < _; omega)).trans hT.b.2.1, (h.cell (p := ⟨w.heap.size + 1, 2, none⟩) (by show w.heap.size + 1 < _; omega)).trans hT.b.2.2⟩
  have HC : Hid (cmpI (a.num * (b.den : Int)) (b.num * (a.den : Int)) = c) := hc
  have HL : Hid ((mag (a.num * (b.den : Int)).natAbs).length ≤ 3000 ∧ (mag (b.num * (a.den : Int)).natAbs).length ≤ 3000) := by
    have h2 := mul_len a.num (b.den : Int)
    have h3 := mul_len b.num (a.den : Int)
    rw [Int.natAbs_natCast] at h2 h3
    have := ha.1; have := ha.2; have := hb.1; have := hb.2
    refine ⟨?_, ?_⟩ <;> omega
  clear hx hy ha hb hc
  go_enter Tryz.func28, Tryz.ntmps28
  go_upto_region 1 with fail
  rw [← hT.eq]
  clear hT
  have hzU : W.heap.size ≤ W.drew.heap.size := Nat.le_refl _
  have S0 : Step8 0 := ⟨trivial⟩
  go_region_held3 (fun w' => (w'.cell? ⟨w.heap.size, 0, none⟩ = some (.bool na) ∧ w'.cell? ⟨w.heap.size, 1, none⟩ = some (.slice ao la ca) ∧ w'.cell? ⟨w.heap.size, 2, none⟩ = some (.slice po lp cp) ∧ w'.cell? ⟨w.heap.size + 1, 0, none⟩ = some (.bool nb) ∧ w'.cell? ⟨w.heap.size + 1, 1, none⟩ = some (.slice bo lb cb) ∧ w'.cell? ⟨w.heap.size + 1, 2, none⟩ = some (.slice qo lq cq)))
    (with_reducible (first | exact KW.out _ (Below.refl _ _).drew | exact KW.out _ (by assumption) | (refine KW.out _ ?_; (repeat (first | refine below_alloc ?_ (Nat.le_refl _) | refine Below.drew ?_ | refine below_set ?_ (by omega))); (first | exact hbF5 | exact hbF4 | exact hbF3 | exact hbF2 | exact hbF1 | exact Below.refl _ _))))
    (first
      | (have _t := S0; go_at_call 69; refine with_held (S := fun w9 => Below W.heap.size W w9) (by show Below _ _ _; with_reducible ((repeat (first | refine below_alloc ?_ (Nat.le_refl _) | refine Below.drew ?_ | refine below_set ?_ (by omega))); (first | exact hbF5 | exact hbF4 | exact hbF3 | exact hbF2 | exact hbF1 | exact Below.refl _ _))) (fun hS => ?_); refine (qden_any nb bo qo lb cb lq cq _ (by omega)).mono ?_; rintro e f1 ⟨rfl, hb⟩; skip; have hbF1 : Below W.heap.size W f1 := bnext hS hb; have hzF1 := hbF1.size; clear hS hb S0; have S1 : Step8 1 := ⟨trivial⟩)
      | (have _t := S1; go_at_call 71; refine with_held (S := fun w9 => Below W.heap.size W w9) (by show Below _ _ _; with_reducible ((repeat (first | refine below_alloc ?_ (Nat.le_refl _) | refine Below.drew ?_ | refine below_set ?_ (by omega))); (first | exact hbF5 | exact hbF4 | exact hbF3 | exact hbF2 | exact hbF1 | exact Below.refl _ _))) (fun hS => ?_); refine with_held (S := fun w9 => Below f1.heap.size f1 w9) (by show Below _ _ _; with_reducible ((repeat (refine below_alloc ?_ (Nat.le_refl _))); exact Below.refl _ _)) (fun hS2 => ?_); refine (rtimes_any na false ao qo la ca lq cq a.num (b.den : Int) _ (HX.out.1.num.later hS) (row_int (HX.out.2.1.den.later hS)) (by omega) (by omega)).mono ?_; rintro e f2 ⟨n1, o1, l1, c1, rfl, hs, ho, hb⟩; have H2 : Hid (IntAt f2 n1 o1 l1 c1 (a.num * (b.den : Int))) := ho.int hs; have hl1 : l1 ≤ 3000 := (by rw [ho.row.hlen]; exact HL.out.1); clear hs ho; have hbF2 : Below W.heap.size W f2 := bnext hS hb; have hzF2 := hbF2.size; clear hS hb S1; clear hS2; have S2 : Step8 2 := ⟨trivial⟩)
      | (have _t := S2; go_at_call 69; refine with_held (S := fun w9 => Below W.heap.size W w9) (by show Below _ _ _; with_reducible ((repeat (first | refine below_alloc ?_ (Nat.le_refl _) | refine Below.drew ?_ | refine below_set ?_ (by omega))); (first | exact hbF5 | exact hbF4 | exact hbF3 | exact hbF2 | exact hbF1 | exact Below.refl _ _))) (fun hS => ?_); refine with_held (S := fun w9 => Below f2.heap.size f2 w9) (by show Below _ _ _; with_reducible ((repeat (refine below_alloc ?_ (Nat.le_refl _))); exact Below.refl _ _)) (fun hS2 => ?_); refine (qden_any na ao po la ca lp cp _ (by omega)).mono ?_; rintro e f3 ⟨rfl, hb⟩; have H3 : Hid (IntAt f3 n1 o1 l1 c1 (a.num * (b.den : Int))) := H2.out.later (bnext hS2 hb); have hbF3 : Below W.heap.size W f3 := bnext hS hb; have hzF3 := hbF3.size; clear hS hb S2; clear hS2; have S3 : Step8 3 := ⟨trivial⟩)
      | (have _t := S3; go_at_call 71; refine with_held (S := fun w9 => Below W.heap.size W w9) (by show Below _ _ _; with_reducible ((repeat (first | refine below_alloc ?_ (Nat.le_refl _) | refine Below.drew ?_ | refine below_set ?_ (by omega))); (first | exact hbF5 | exact hbF4 | exact hbF3 | exact hbF2 | exact hbF1 | exact Below.refl _ _))) (fun hS => ?_); refine with_held (S := fun w9 => Below f3.heap.size f3 w9) (by show Below _ _ _; with_reducible ((repeat (refine below_alloc ?_ (Nat.le_refl _))); exact Below.refl _ _)) (fun hS2 => ?_); refine (rtimes_any nb false bo po lb cb lp cp b.num (a.den : Int) _ (HX.out.2.1.num.later hS) (row_int (HX.out.1.den.later hS)) (by omega) (by omega)).mono ?_; rintro e f4 ⟨n2, o2, l2, c2, rfl, hs, ho, hb⟩; have H4 : Hid (IntAt f4 n1 o1 l1 c1 (a.num * (b.den : Int)) ∧ IntAt f4 n2 o2 l2 c2 (b.num * (a.den : Int))) := ⟨H3.out.later (bnext hS2 hb), ho.int hs⟩; have hl2 : l2 ≤ 3000 := (by rw [ho.row.hlen]; exact HL.out.2); clear hs ho; have hbF4 : Below W.heap.size W f4 := bnext hS hb; have hzF4 := hbF4.size; clear hS hb S3; clear hS2; have S4 : Step8 4 := ⟨trivial⟩)
      | (have _t := S4; go_at_call 70; refine with_held (S := fun w9 => Below W.heap.size W w9) (by show Below _ _ _; with_reducible ((repeat (first | refine below_alloc ?_ (Nat.le_refl _) | refine Below.drew ?_ | refine below_set ?_ (by omega))); (first | exact hbF5 | exact hbF4 | exact hbF3 | exact hbF2 | exact hbF1 | exact Below.refl _ _))) (fun hS => ?_); refine with_held (S := fun w9 => Below f4.heap.size f4 w9) (by show Below _ _ _; with_reducible ((repeat (refine below_alloc ?_ (Nat.le_refl _))); exact Below.refl _ _)) (fun hS2 => ?_); refine (rcmp_any n1 n2 o1 o2 l1 c1 l2 c2 _ _ _ (H4.out.1.later hS2) (H4.out.2.later hS2) (by omega) (by omega) c HC.out).mono ?_; rintro e f5 ⟨rfl, hb⟩; skip; have hbF5 : Below W.heap.size W f5 := bnext hS hb; have hzF5 := hbF5.size; clear hS hb S4; clear hS2; skip))
  all_goals go_wp2
  go_ret
  exact ⟨rfl, bnext HX.out.2.2 hbF5⟩
set_option maxRecDepth 100000 in
set_option maxHeartbeats 4000000 in
theorem qabs_any (na : Bool) (ao po : Option Addr) (la ca lp cp : Nat) (a : Rat) (w : World) (hx : RatAt w na ao la ca po lp cp a) (hl : la ≤ 1073741824) :
    Calls Tryz.prog 23 #[.agg #[.bool na, .slice ao la ca, .slice po lp cp]] w fun e w' => SomeR w w' e (absR a) := by
  obtain ⟨W, hT⟩ := ROne2.mk' w na ao po la ca lp cp
  have hsz := hT.size
  have HX : Hid (RatAt W na ao la ca po lp cp a) := hx.later hT.below
  have KW : Hid (∀ w' : World, Below W.heap.size W w' → w'.cell? ⟨w.heap.size, 0, none⟩ = some (.bool na) ∧ w'.cell? ⟨w.heap.size, 1, none⟩ = some (.slice ao la ca) ∧ w'.cell? ⟨w.heap.size, 2, none⟩ = some (.slice po lp cp)) := fun w' h => ⟨(h.cell (p := ⟨w.heap.size, 0, none⟩) (by show w.heap.size < _; omega)).trans hT.a.1, (h.cell (p := ⟨w.heap.size, 1, none⟩) (by show w.heap.size < _; omega)).trans hT.a.2.1, (h.cell (p := ⟨w.heap.size, 2, none⟩) (by show w.heap.size < _; omega)).trans hT.a.2.2⟩
  have KS : Hid (∀ X : World, Below W.heap.size W X → ∀ x y z, (fun w' : World => w'.cell? ⟨w.heap.size, 0, none⟩ = some (.bool na) ∧ w'.cell? ⟨w.heap.size, 1, none⟩ = some (.slice ao la ca) ∧ w'.cell? ⟨w.heap.size, 2, none⟩ = some (.slice po lp cp)) (((X.setCell ⟨w.heap.size + 1, 0, none⟩ x).setCell ⟨w.heap.size + 1, 1, none⟩ y).setCell ⟨w.heap.size + 1, 2, none⟩ z)) := fun X h x y z => by
    obtain ⟨h0, h1, h2⟩ := KW.out X h
    (try dsimp only)
    rw [cell_off (by omega), cell_off (by omega), cell_off (by omega), cell_off (by omega), cell_off (by omega), cell_off (by omega), cell_off (by omega), cell_off (by omega), cell_off (by omega)]
    exact ⟨h0, h1, h2⟩
  have HF : Hid (Fresh3 W (w.heap.size + 1) ∧ Below w.heap.size w W) := ⟨hT.r, hT.below⟩
  clear hx
  go_enter Tryz.func23, Tryz.ntmps23
  go_upto_region 1 with fail
  rw [← hT.eq]
  clear hT
  have hzU : W.heap.size ≤ W.drew.heap.size := Nat.le_refl _
  have S0 : Step8 0 := ⟨trivial⟩
  go_region_held3 (fun w' => (w'.cell? ⟨w.heap.size, 0, none⟩ = some (.bool na) ∧ w'.cell? ⟨w.heap.size, 1, none⟩ = some (.slice ao la ca) ∧ w'.cell? ⟨w.heap.size, 2, none⟩ = some (.slice po lp cp)))
    (with_reducible (first | exact KS.out _ hbF1 _ _ _ | exact KW.out _ (Below.refl _ _).drew | exact KW.out _ (by assumption) | (refine KW.out _ ?_; (repeat (first | refine below_alloc ?_ (Nat.le_refl _) | refine Below.drew ?_ | refine below_set ?_ (by omega))); (first | exact hbF1 | exact Below.refl _ _))))
    (first
      | (have _t := S0; go_at_call 67; refine with_held (S := fun w9 => Below W.heap.size W w9) (by show Below _ _ _; with_reducible ((repeat (first | refine below_alloc ?_ (Nat.le_refl _) | refine Below.drew ?_ | refine below_set ?_ (by omega))); (first | exact hbF1 | exact Below.refl _ _))) (fun hS => ?_); refine (rabs_any na ao la ca a.num _ (HX.out.num.later hS) (by omega)).mono ?_; rintro e f1 ⟨n1, o1, l1, c1, rfl, hi, hb⟩; have H1 : Hid (RatAt f1 n1 o1 l1 c1 po lp cp (absR a) ∧ Below W.heap.size W f1) := ⟨⟨hi, (HX.out.den.later hS).later hb⟩, bnext hS hb⟩; clear hi; obtain ⟨k5, k2, k3, k4⟩ := HF.out.1.later (bnext hS hb) (by omega); have hbF1 : Below W.heap.size W f1 := bnext hS hb; have hzF1 := hbF1.size; clear hS hb S0; skip))
  all_goals go_wp2
  exact bodyPost_ret (v := .agg #[.bool n1, .slice o1 l1 c1, .slice po lp cp]) (by simp [results, Tryz.results23, go_sem, k2, k3, k4]) rfl
    ⟨_, _, _, _, _, _, _, rfl, rat_kept H1.out.1 ⟨k2, k3, k4⟩, below_store3 (bnext HF.out.2 H1.out.2) (by omega) _ _ _⟩
end Go.Proofs.YtiiefpnkpfliiaaGreatDoor
/-
  Walks: the page's Dyadic and Floor. (gen/rasks1.py)
-/
namespace Go.Proofs.YtiiefpnkpfliiaaGreatDoor
open Go.RowKit
set_option linter.unusedVariables false
set_option linter.unusedSimpArgs false
set_option maxRecDepth 100000 in
set_option maxHeartbeats 4000000 in
theorem qfloor_any (na : Bool) (ao po : Option Addr) (la ca lp cp : Nat) (a : Rat) (w : World) (hx : RatAt w na ao la ca po lp cp a) (hl : la ≤ 1000) (hl' : lp ≤ 1000) :
    Calls Tryz.prog 24 #[.agg #[.bool na, .slice ao la ca, .slice po lp cp]] w fun e w' => RefInt w w' e (a.num / (a.den : Int)) := by
  obtain ⟨W, hT⟩ := RI2.mk' w na ao po la ca lp cp
  have hsz : w.heap.size + 2 ≤ W.heap.size := by rw [hT.size]; exact Nat.le_refl _
  have HX : Hid (RatAt W na ao la ca po lp cp a) := hx.later hT.below
  have hd : (a.den : Int) ≠ 0 := by have := a.den_pos; omega
  have KW : Hid (∀ w' : World, Below W.heap.size W w' → (Below W.heap.size W w' ∧ w'.cell? ⟨w.heap.size, 0, none⟩ = some (.bool na) ∧ w'.cell? ⟨w.heap.size, 1, none⟩ = some (.slice ao la ca) ∧ w'.cell? ⟨w.heap.size, 2, none⟩ = some (.slice po lp cp))) := fun w' h => ⟨h, (h.cell (p := ⟨w.heap.size, 0, none⟩) (by show w.heap.size < _; omega)).trans hT.a.1, (h.cell (p := ⟨w.heap.size, 1, none⟩) (by show w.heap.size < _; omega)).trans hT.a.2.1, (h.cell (p := ⟨w.heap.size, 2, none⟩) (by show w.heap.size < _; omega)).trans hT.a.2.2⟩
  have HF : Hid (Fresh W (w.heap.size + 1) ∧ Below w.heap.size w W) := ⟨hT.r, hT.below⟩
  obtain ⟨vq, hvq⟩ : ∃ q : Int, a.num / (a.den : Int) = q := ⟨_, rfl⟩
  rw [hvq]
  have HQ : Hid (a.num / (a.den : Int) = vq) := hvq
  clear hx hvq
  go_enter Tryz.func24, Tryz.ntmps24
  go_upto_region 1 with fail
  rw [← hT.eq]
  clear hT
  go_cut [3, 4] (fun s3 s4 wx => ∃ r3 r4, s3 = .pointer (some ⟨r3, 0, none⟩) ∧ s4 = .pointer (some ⟨r4, 0, none⟩) ∧ ∃ vr, TwoV W wx r3 r4 vq vr)
  case first => as_aux_lemma =>
    have hzU : W.heap.size ≤ W.drew.heap.size := Nat.le_refl _
    have S0 : Step8 0 := ⟨trivial⟩
    go_region_held3 (fun w' => (Below W.heap.size W w' ∧ w'.cell? ⟨w.heap.size, 0, none⟩ = some (.bool na) ∧ w'.cell? ⟨w.heap.size, 1, none⟩ = some (.slice ao la ca) ∧ w'.cell? ⟨w.heap.size, 2, none⟩ = some (.slice po lp cp)))
      (with_reducible (first | exact KW.out _ (Below.refl _ _).drew | exact KW.out _ (by assumption) | (refine KW.out _ ?_; (repeat (first | refine below_alloc ?_ (Nat.le_refl _) | refine Below.drew ?_ | refine below_set ?_ (by omega))); (first | exact hbF2 | exact hbF1 | exact Below.refl _ _))))
      (first
        | (have _t := S0; go_at_call 69; refine with_held (S := fun w9 => Below W.heap.size W w9) (by show Below _ _ _; with_reducible ((repeat (first | refine below_alloc ?_ (Nat.le_refl _) | refine Below.drew ?_ | refine below_set ?_ (by omega))); (first | exact hbF2 | exact hbF1 | exact Below.refl _ _))) (fun hS => ?_); (first | (with_reducible refine with_held (S := fun w9 => Fresh w9 W.heap.size ∧ Fresh w9 (W.heap.size + 1)) ⟨(Fresh.drew' (Fresh.alloc' (Fresh.new W))), (Fresh.drew' (Fresh.new1 W))⟩ (fun FAB => ?_); have FA := FAB.1; have FB := FAB.2; clear FAB; have hAB : W.heap.size ≠ W.heap.size + 1 := (by omega); have hBA := Ne.symm hAB) | (with_reducible refine with_held (S := fun w9 => Fresh w9 W.heap.size) (Fresh.drew' (Fresh.new W)) (fun FA => ?_)) | skip); refine (qden_any na ao po la ca lp cp _ (by omega)).mono ?_; rintro e f1 ⟨rfl, hb⟩; skip; have hbF1 : Below W.heap.size W f1 := bnext hS hb; have hzF1 := hbF1.size; (try replace FA := Fresh.next FA hb); (try replace FB := Fresh.next FB hb); clear hS hb S0; have S1 : Step8 1 := ⟨trivial⟩)
        | (have _t := S1; go_at_call 68; refine with_held (S := fun w9 => Below W.heap.size W w9) (by show Below _ _ _; with_reducible ((repeat (first | refine below_alloc ?_ (Nat.le_refl _) | refine Below.drew ?_ | refine below_set ?_ (by omega))); (first | exact hbF2 | exact hbF1 | exact Below.refl _ _))) (fun hS => ?_); refine with_held (S := fun w9 => Below f1.heap.size f1 w9) (by show Below _ _ _; with_reducible ((repeat (refine below_alloc ?_ (Nat.le_refl _))); exact Below.refl _ _)) (fun hS2 => ?_); (first | (with_reducible refine with_held (S := fun w9 => Fresh w9 f1.heap.size ∧ Fresh w9 (f1.heap.size + 1)) ⟨(Fresh.alloc' (Fresh.new f1)), (Fresh.new1 f1)⟩ (fun FAB => ?_); have FA := FAB.1; have FB := FAB.2; clear FAB; have hAB : f1.heap.size ≠ f1.heap.size + 1 := (by omega); have hBA := Ne.symm hAB) | (have hAB := Nat.ne_of_lt (cell_lt FA.2.1); dsimp only at hAB; have hBA := Ne.symm hAB; with_reducible refine with_held (S := fun w9 => Fresh w9 f1.heap.size ∧ Fresh w9 _) ⟨Fresh.new f1, Fresh.alloc' FA⟩ (fun FAB => ?_); have FB := FAB.1; replace FA := FAB.2; clear FAB) | (with_reducible refine with_held (S := fun w9 => Fresh w9 f1.heap.size) (Fresh.new f1) (fun FA => ?_)) | skip); refine (rdivide_any na false ao po la ca lp cp a.num (a.den : Int) _ (HX.out.num.later hS) (row_int (HX.out.den.later hS)) (by omega) (by omega) hd).mono ?_; rintro e f2 ⟨q5, vr, hfl, n1, o1, l1, c1, n2, o2, l2, c2, rfl, hi1, hi2, hb⟩; have hq5 : q5 = vq := (hfl.pos (by have := a.den_pos; omega)).1.trans HQ.out; subst hq5; have H2 : Hid (IntAt f2 n1 o1 l1 c1 q5 ∧ IntAt f2 n2 o2 l2 c2 vr) := ⟨hi1, hi2⟩; clear hi1 hi2 hfl; have hbF2 : Below W.heap.size W f2 := bnext hS hb; have hzF2 := hbF2.size; (try replace FA := Fresh.next FA hb); (try replace FB := Fresh.next FB hb); (try (have hltA := cell_lt FA.2.1; dsimp only at hltA; have hneA := Nat.ne_of_lt hltA; have hneA2 := Ne.symm hneA; obtain ⟨a5, a3, a4⟩ := FA)); (try (have hltB := cell_lt FB.2.1; dsimp only at hltB; have hneB := Nat.ne_of_lt hltB; have hneB2 := Ne.symm hneB; obtain ⟨b5, b3, b4⟩ := FB)); clear hS hb S1; clear hS2; skip))
    all_goals go_wp2
    all_goals go_meet
    all_goals refine ⟨_, _, rfl, rfl, vr, ?_⟩
    all_goals (first
      | (with_reducible exact tv_a H2 hbF2)
      | (with_reducible exact tv_b H2 hbF2)
      | ((with_reducible refine tv_c H2 hbF2 ?_ ?_) <;> (first | (with_reducible exact fresh_mk a5 a3 a4) | (with_reducible exact fresh_mk b5 b3 b4) | omega))
      | ((with_reducible refine tv_d H2 hbF2 ?_ ?_) <;> (first | (with_reducible exact fresh_mk a5 a3 a4) | (with_reducible exact fresh_mk b5 b3 b4) | omega))
      | ((with_reducible refine tv_e H2 hbF2 ?_ ?_ ?_ ?_ ?_) <;> (first | (with_reducible exact fresh_mk a5 a3 a4) | (with_reducible exact fresh_mk b5 b3 b4) | omega)))
  case rest => as_aux_lemma =>
    obtain ⟨r3, r4, rfl, rfl, vr, n1, o1, l1, c1, n2, o2, l2, c2, x1, x2, ⟨⟨hr3, hr4⟩, hU3, hU4⟩, hi1, hi2, hbV⟩ := hcut
    obtain ⟨Y, hY⟩ : ∃ Z0, Z0 = wc := ⟨_, rfl⟩
    subst hY
    obtain ⟨y0, y1⟩ := x1
    obtain ⟨g5, g3, g4⟩ := HF.out.1.later hbV (by omega)
    have HY : Hid (IntAt Y n1 o1 l1 c1 vq ∧ Below w.heap.size w Y) := ⟨hi1, bnext HF.out.2 hbV⟩
    clear hi1 hi2 hbV x2
    go_wp2
    exact bodyPost_ret (v := .agg #[.bool n1, .slice o1 l1 c1]) (by simp [results, Tryz.results24, go_sem, g3, g4]) rfl
      ⟨_, _, _, _, rfl, int_kept HY.out.1 ⟨g5, g3, g4⟩, below_store HY.out.2 (by omega) _ _⟩
end Go.Proofs.YtiiefpnkpfliiaaGreatDoor
/-
  Walks: the page's Simple. (gen/rsimple4.py)
-/
namespace Go.Proofs.YtiiefpnkpfliiaaGreatDoor
open Go.RowKit
set_option linter.unusedVariables false
set_option linter.unusedSimpArgs false
/-- a rational in a variable that was made behind U -/
def NVar (U wx : World) (r : Nat) (v : Rat) : Prop := ∃ n o l c p m k, RVar wx r n o l c p m k v ∧ U.heap.size ≤ r ∧ Below U.heap.size U wx
theorem nvr_a {U y : World} {n : Bool} {o p : Option Addr} {l c m k : Nat} {v : Rat} (h : Hid (RatAt y n o l c p m k v)) (hb : Below U.heap.size U y) : NVar U (y.alloc (.cells #[.bool n, .slice o l c, .slice p m k] 28)) y.heap.size v :=
  ⟨n, o, l, c, p, m, k, (RVar.new hb h.out).out.1, hb.size, (RVar.new hb h.out).out.2.1⟩
theorem Fresh3.new (w : World) : Fresh3 (w.alloc (.cells #[.bool false, .slice none 0 0, .slice none 0 0] 28)) w.heap.size := ⟨fun j => by simp [go_sem], by simp [go_sem], by simp [go_sem], by simp [go_sem]⟩
theorem Fresh3.drew' {X : World} {r : Nat} (h : Fresh3 X r) : Fresh3 X.drew r := ⟨h.1, h.2.1, h.2.2.1, h.2.2.2⟩
theorem Fresh3.next {W w2 : World} {r : Nat} (k : Fresh3 W r) (h : Below W.heap.size W w2) : Fresh3 w2 r := k.later h (cell_lt k.2.1)
theorem isz {v : Int} {k : Nat} (h : (mag v.natAbs).length ≤ k) (hk : 1 ≤ k) : Sz (v : Rat) k := ⟨h, Nat.le_trans (show (mag 1).length ≤ 1 by decide) hk⟩
end Go.Proofs.YtiiefpnkpfliiaaGreatDoor
/-
  What is too long for a round.
-/
namespace Go.Proofs.YtiiefpnkpfliiaaGreatDoor
open Go.RowKit
set_option linter.unusedVariables false
set_option linter.unusedSimpArgs false
set_option maxRecDepth 100000 in
set_option maxHeartbeats 1000000 in
theorem heavyR_any (na nb : Bool) (ao po bo qo : Option Addr) (la ca lp cp lb cb lq cq : Nat) (N : Int) (w : World) (c : Bool) (hc : ((decide ((8 : Int) < (la : Int)) || decide ((8 : Int) < (lp : Int))) || (decide ((8 : Int) < (lb : Int)) || decide ((8 : Int) < (lq : Int)))) = c) :
    Calls Tryz.prog 6 #[.agg #[.bool na, .slice ao la ca, .slice po lp cp, .bool nb, .slice bo lb cb, .slice qo lq cq, .int .i64 N]] w fun e w' => e = .returned (.bool c) ∧ Below w.heap.size w w' := by
  obtain ⟨W, hT⟩ := InR.mk' w na nb ao po bo qo la ca lp cp lb cb lq cq N
  have hsz := hT.size
  cases h1 : (decide ((8 : Int) < (la : Int)) || decide ((8 : Int) < (lp : Int)))
  · have HC : Hid ((decide ((8 : Int) < (lb : Int)) || decide ((8 : Int) < (lq : Int))) = c) := by show _ = _; rw [← hc, h1, Bool.false_or]
    have H1 : Hid ((decide ((8 : Int) < (la : Int)) || decide ((8 : Int) < (lp : Int))) = false) := h1
    clear h1 hc
    go_enter Tryz.func6, Tryz.ntmps6
    go_wp2_with (first
      | (go_at_call 47; have _t := hb1; refine (longRat_any nb bo qo lb cb lq cq 8 _ c HC.out).mono ?_; rintro e w2 ⟨rfl, hb2⟩)
      | (go_at_call 47; rw [← hT.eq]; refine (longRat_any na ao po la ca lp cp 8 _ false H1.out).mono ?_; rintro e w1 ⟨rfl, hb1⟩; obtain ⟨q0, q1, q2, q3, q4, q5, q6⟩ := hT.p.later hb1 (by omega)))
    go_ret
    exact ⟨rfl, bnext hT.below (bnext hb1 hb2)⟩
  · obtain rfl : c = true := by rw [← hc, h1]; rfl
    have H1 : Hid ((decide ((8 : Int) < (la : Int)) || decide ((8 : Int) < (lp : Int))) = true) := h1
    clear h1 hc
    go_enter Tryz.func6, Tryz.ntmps6
    go_wp2_with (go_at_call 47; rw [← hT.eq]; refine (longRat_any na ao po la ca lp cp 8 _ true H1.out).mono ?_; rintro e w1 ⟨rfl, hb1⟩)
    go_ret
    exact ⟨rfl, bnext hT.below hb1⟩
end Go.Proofs.YtiiefpnkpfliiaaGreatDoor
