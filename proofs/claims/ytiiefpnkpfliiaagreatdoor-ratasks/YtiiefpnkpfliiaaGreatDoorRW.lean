/-
  Walks: a quotient by 0; the page's quotient; copies; answers that are written over. (gen/rmore.py)
-/
import Derived.Test.YtiiefpnkpfliiaaGreatDoorRV
import Derived.Test.YtiiefpnkpfliiaaGreatDoorHJ
import Derived.Test.YtiiefpnkpfliiaaGreatDoorRL
namespace Go.Proofs.YtiiefpnkpfliiaaGreatDoor
open Go.RowKit
set_option linter.unusedVariables false
set_option linter.unusedSimpArgs false
set_option maxRecDepth 100000 in
set_option maxHeartbeats 4000000 in
theorem two2_any (na nb : Bool) (ao po bo qo : Option Addr) (la ca lp cp lb cb lq cq : Nat) (N : Int) (x d y f : List Int) (w : World) (hx : RowAt w .u64 ao la ca x) (wx : Wd 18446744073709551616 x) (hd : RowAt w .u64 po lp cp d) (wd : Wd 18446744073709551616 d) (hy : RowAt w .u64 bo lb cb y) (wy : Wd 18446744073709551616 y) (hf : RowAt w .u64 qo lq cq f) (wf : Wd 18446744073709551616 f) (hla : la ≤ 16777216) (hlp : lp ≤ 16777216) (hlb : lb ≤ 16777216) (hlq : lq ≤ 16777216) (c : Int) (hc : (if mayR na x d && mayR nb y f then 0 else 20 : Int) = c) :
    Calls Tryz.prog 27 #[.agg #[.bool na, .slice ao la ca, .slice po lp cp, .bool nb, .slice bo lb cb, .slice qo lq cq, .int .i64 N]] w fun e w' => e = .returned (.int .i64 c) ∧ Below w.heap.size w w' := by
  obtain ⟨W, hT⟩ := InR.mk' w na nb ao po bo qo la ca lp cp lb cb lq cq N
  have hsz := hT.size
  have RX : Hid (RowAt W .u64 ao la ca x ∧ RowAt W .u64 po lp cp d) := ⟨hx.later hT.below, hd.later hT.below⟩
  have RY : Hid (RowAt W .u64 bo lb cb y ∧ RowAt W .u64 qo lq cq f) := ⟨hy.later hT.below, hf.later hT.below⟩
  clear hx hd hy hf
  cases h1 : mayR na x d
  · obtain rfl : c = 20 := by rw [← hc, h1]; rfl
    have H1 : Hid (mayR na x d = false) := h1
    clear h1 hc
    go_enter Tryz.func27, Tryz.ntmps27
    go_wp2_with (go_at_call 7; rw [← hT.eq]; refine (qmay_any na ao po la ca lp cp x d _ RX.out.1 wx RX.out.2 wd hla hlp false H1.out).mono ?_; rintro e w1 ⟨rfl, hb1⟩; obtain ⟨q0, q1, q2, q3, q4, q5, q6⟩ := hT.p.later hb1 (by omega))
    go_ret
    exact ⟨rfl, bnext hT.below hb1⟩
  · have H1 : Hid (mayR na x d = true) := h1
    cases h2 : mayR nb y f
    · obtain rfl : c = 20 := by rw [← hc, h1, h2]; rfl
      have H2 : Hid (mayR nb y f = false) := h2
      clear h1 h2 hc
      go_enter Tryz.func27, Tryz.ntmps27
      go_wp2_with (first
        | (go_at_call 7; have _t := hb1; refine (qmay_any nb bo qo lb cb lq cq y f _ (RY.out.1.later hb1) wy (RY.out.2.later hb1) wf hlb hlq false H2.out).mono ?_; rintro e w2 ⟨rfl, hb2⟩)
        | (go_at_call 7; rw [← hT.eq]; refine (qmay_any na ao po la ca lp cp x d _ RX.out.1 wx RX.out.2 wd hla hlp true H1.out).mono ?_; rintro e w1 ⟨rfl, hb1⟩; obtain ⟨q0, q1, q2, q3, q4, q5, q6⟩ := hT.p.later hb1 (by omega)))
      go_ret
      exact ⟨rfl, bnext hT.below (bnext hb1 hb2)⟩
    · obtain rfl : c = 0 := by rw [← hc, h1, h2]; rfl
      have H2 : Hid (mayR nb y f = true) := h2
      clear h1 h2 hc
      go_enter Tryz.func27, Tryz.ntmps27
      go_wp2_with (first
        | (go_at_call 7; have _t := hb1; refine (qmay_any nb bo qo lb cb lq cq y f _ (RY.out.1.later hb1) wy (RY.out.2.later hb1) wf hlb hlq true H2.out).mono ?_; rintro e w2 ⟨rfl, hb2⟩)
        | (go_at_call 7; rw [← hT.eq]; refine (qmay_any na ao po la ca lp cp x d _ RX.out.1 wx RX.out.2 wd hla hlp true H1.out).mono ?_; rintro e w1 ⟨rfl, hb1⟩; obtain ⟨q0, q1, q2, q3, q4, q5, q6⟩ := hT.p.later hb1 (by omega)))
      go_ret
      exact ⟨rfl, bnext hT.below (bnext hb1 hb2)⟩
/-- of what was there all stays, but for the two slices' own blocks -/
def Stay2 (ao po : Option Addr) (w w' : World) : Prop := ∀ k, k < w.heap.size → (∀ p : Addr, ao = some p → p.block ≠ k) → (∀ p : Addr, po = some p → p.block ≠ k) → w'.heap[k]? = w.heap[k]?
theorem Stay2.of {ao po : Option Addr} {w w1 w2 : World} (h1 : Stay ao w w1) (h2 : Stay po w1 w2) : Stay2 ao po w w2 := fun k hk ha hp => (h2.block k (Nat.lt_of_lt_of_le hk h1.size) hp).trans (h1.block k hk ha)
theorem Stay2.after {ao po : Option Addr} {w w' w2 : World} (hb : Below w.heap.size w w') (h : Stay2 ao po w' w2) : Stay2 ao po w w2 := fun k hk ha hp => (h k (Nat.lt_of_lt_of_le hk hb.size) ha hp).trans (hb.block k hk)
theorem own_stays {B : Nat} {w w' : World} {ao bo : Option Addr} {len cap : Nat} {zs : List Int} (h : Own B w .u64 59 bo len cap zs) (hs : Stay ao w w') (hp : Parted ao bo) : Own B w' .u64 59 bo len cap zs := by
  rcases h with h | ⟨g, off, L, rfl, h2, h3, h4⟩
  · exact Or.inl h
  · exact Or.inr ⟨g, off, L, rfl, h2, by rw [hs.block g (heap_lt h3) (fun p hp' e => hp p ⟨g, off, none⟩ hp' rfl e)]; exact h3, h4⟩
set_option maxRecDepth 100000 in
set_option maxHeartbeats 4000000 in
theorem spoilR_any (B : Nat) (na : Bool) (ao po : Option Addr) (la ca lp cp : Nat) (zs ds : List Int) (w : World) (ho : Own B w .u64 59 ao la ca zs) (hp : Own B w .u64 59 po lp cp ds) (hpt : Parted ao po) (hB : B ≤ w.heap.size) (hl : la ≤ 1073741824) (hl' : lp ≤ 1073741824) :
    Calls Tryz.prog 83 #[.agg #[.bool na, .slice ao la ca, .slice po lp cp]] w fun e w' => e = .returned (.tuple #[]) ∧ Below B w w' ∧ Stay2 ao po w w' ∧ w.heap.size ≤ w'.heap.size := by
  obtain ⟨W, hW⟩ := ROne1.mk' w na ao po la ca lp cp
  have hsz := hW.size
  have HO : Hid (Own B W .u64 59 ao la ca zs ∧ Own B W .u64 59 po lp cp ds ∧ Parted ao po) := ⟨ho.later hW.below, hp.later hW.below, hpt⟩
  have hne : ∀ p : Addr, ao = some p → p.block ≠ w.heap.size := fun p hp e => by
    rcases ho with ⟨h, _⟩ | ⟨g, off, L, h1, h2, h3, h4⟩
    · rw [h] at hp; cases hp
    · rw [h1] at hp; cases hp
      have := heap_lt h3
      exact absurd e (by show g ≠ _; omega)
  have HN : Hid (∀ p : Addr, ao = some p → p.block ≠ w.heap.size) := hne
  clear ho hp hpt hne
  go_enter Tryz.func83, Tryz.ntmps83
  go_wp2_with (first
    | (go_at_call 118; rw [← hW.eq]; refine (spoil_any B na ao la ca zs _ HO.out.1 (by omega) (by omega)).mono ?_; rintro e w1 ⟨rfl, hb1, hs1⟩; have p2 := (hs1.cell (r := w.heap.size) (j := 2) (by omega) HN.out).trans hW.a.2.2; have HS1 : Hid (Stay ao W w1) := hs1; have hz1 := hs1.size; clear hs1)
    | (go_at_call 119; refine (words_any B po lp cp ds _ (own_stays HO.out.2.1 HS1.out HO.out.2.2) (by omega) (by omega)).mono ?_; rintro e w2 ⟨rfl, hb2, hs2⟩))
  go_end0
  exact ⟨rfl, (below_less hW.below hB).trans (hb1.trans hb2), Stay2.after hW.below (Stay2.of HS1.out hs2), by have := hs2.size; omega⟩
def IsTrue2 (B : Nat) (ao po : Option Addr) (w w' : World) (e : Ending) : Prop := e = .returned (.bool true) ∧ Below B w w' ∧ Stay2 ao po w w' ∧ w.heap.size ≤ w'.heap.size
set_option maxRecDepth 100000 in
set_option maxHeartbeats 4000000 in
theorem is2_good (B : Nat) (n1 n2 : Bool) (o1 p1 o2 p2 : Option Addr) (l1 c1 m1 d1 l2 c2 m2 d2 : Nat) (a : Rat) (w : World) (hs : n1 = sgB a.num) (ho : Own B w .u64 59 o1 l1 c1 (mag a.num.natAbs)) (hp : Own B w .u64 59 p1 m1 d1 (mag a.den)) (hpt : Parted o1 p1) (hB : B ≤ w.heap.size) (hy : RatAt w n2 o2 l2 c2 p2 m2 d2 a) (hl : l1 ≤ 1073741824) (hl' : m1 ≤ 1073741824) :
    Calls Tryz.prog 37 #[.agg #[.bool n1, .slice o1 l1 c1, .slice p1 m1 d1], .int .i64 0, .int .i64 0, .agg #[.bool n2, .slice o2 l2 c2, .slice p2 m2 d2]] w fun e w' => IsTrue2 B o1 p1 w w' e := by
  obtain ⟨W, hW⟩ := RTwo2.mk' w n1 n2 o1 p1 o2 p2 l1 c1 m1 d1 l2 c2 m2 d2
  have hsz := hW.size
  have HO : Hid (RatAt W n1 o1 l1 c1 p1 m1 d1 a ∧ RatAt W n2 o2 l2 c2 p2 m2 d2 a ∧ Own B W .u64 59 o1 l1 c1 (mag a.num.natAbs) ∧ Own B W .u64 59 p1 m1 d1 (mag a.den) ∧ Parted o1 p1) := ⟨⟨(ho.later hW.below).int hs, (hp.later hW.below).row⟩, hy.later hW.below, ho.later hW.below, hp.later hW.below, hpt⟩
  clear hs ho hp hy hpt
  go_enter Tryz.func37, Tryz.ntmps37
  go_wp2_with (first
    | (go_at_call 9; rw [← hW.eq]; refine (num2_any 0 _).mono ?_; rintro e w1 ⟨rfl, hw1⟩; replace hw1 := hw1.symm; subst hw1; obtain ⟨p0, p1', p2'⟩ := hW.a; obtain ⟨q0, q1, q2⟩ := hW.b)
    | (go_at_call 14; refine (eqrat_same n1 n2 o1 p1 o2 p2 l1 c1 m1 d1 l2 c2 m2 d2 a _ HO.out.1 HO.out.2.1 hl hl').mono ?_; rintro e w2 ⟨rfl, hb2⟩; clear p0 p1' p2' q0 q1 q2; obtain ⟨p0, p1', p2'⟩ := hW.a.later hb2 (by omega))
    | (go_at_call 83; refine (spoilR_any B n1 o1 p1 l1 c1 m1 d1 _ _ _ (HO.out.2.2.1.later hb2) (HO.out.2.2.2.1.later hb2) HO.out.2.2.2.2 (by have := hb2.size; omega) hl hl').mono ?_; rintro e w3 ⟨rfl, hb3, hs3, hz3⟩))
  go_ret
  exact ⟨rfl, (below_less (bnext hW.below hb2) hB).trans hb3, Stay2.after (bnext hW.below hb2) hs3, by have := (bnext hW.below hb2).size; omega⟩
set_option maxRecDepth 100000 in
set_option maxHeartbeats 4000000 in
theorem is2_bad (n2 : Bool) (o2 p2 : Option Addr) (l2 c2 m2 d2 : Nat) (c : Int) (w : World) (hc : c ≠ 0) :
    Calls Tryz.prog 37 #[.agg #[.bool false, .slice none 0 0, .slice none 0 0], .int .i64 c, .int .i64 c, .agg #[.bool n2, .slice o2 l2 c2, .slice p2 m2 d2]] w fun e w' => e = .returned (.bool true) ∧ Below w.heap.size w w' := by
  obtain ⟨W, hW⟩ := RTwo2.mk' w false n2 none none o2 p2 0 0 0 0 l2 c2 m2 d2
  have hsz := hW.size
  have hc' : ¬ c = 0 := hc
  clear hc
  go_enter Tryz.func37, Tryz.ntmps37
  go_wp2_with (first
    | (go_at_call 9; rw [← hW.eq]; refine (num2_any c _).mono ?_; rintro e w1 ⟨rfl, hw1⟩; replace hw1 := hw1.symm; subst hw1; obtain ⟨p0, p1', p2'⟩ := hW.a)
    | (go_at_call 14; refine (eqraw_same false none none none none 0 0 0 0 0 0 0 0 [] [] _ (RowAt.nilRow _ _) (RowAt.nilRow _ _) (RowAt.nilRow _ _) (RowAt.nilRow _ _) (by omega) (by omega)).mono ?_; rintro e w2 ⟨rfl, hb2⟩))
  go_ret
  exact ⟨rfl, bnext hW.below hb2⟩
theorem row_kept2 {w : World} {p : Option Addr} {m k r : Nat} {zs : List Int} {x y : Value} {n9 : Bool} {o9 : Option Addr} {l9 c9 : Nat} (hr : RowAt w .u64 p m k zs) (f0 : w.cell? ⟨r, 0, none⟩ = some (.bool n9)) (f1 : w.cell? ⟨r, 1, none⟩ = some (.slice o9 l9 c9)) : RowAt ((w.setCell ⟨r, 0, none⟩ x).setCell ⟨r, 1, none⟩ y) .u64 p m k zs := by
  refine ⟨hr.hlen, hr.hcap, hr.hnil, ?_⟩
  rcases hr.hat with h0 | ⟨b, off, h1, hlt, h2⟩
  · exact Or.inl h0
  · refine Or.inr ⟨b, off, h1, by simpa using hlt, fun t ht => ?_⟩
    have h3 := h2 t ht
    by_cases e : b = r
    · subst e
      have n0 : off + t ≠ 0 := fun e => by rw [e] at h3; rw [h3] at f0; cases f0
      have n1 : off + t ≠ 1 := fun e => by rw [e] at h3; rw [h3] at f1; cases f1
      rw [setCell_ne (fun e => n1 e.2), setCell_ne (fun e => n0 e.2)]; exact h3
    · rw [cell_off e, cell_off e]; exact h3
theorem copy_mid {W y1 : World} {r B : Nat} {na : Bool} {ao ao' po : Option Addr} {la ca c' lp cp : Nat} {x d : List Int} (h1 : RowAt y1 .u64 ao' la c' x) (h2 : RowAt y1 .u64 po lp cp d) (hb : Below W.heap.size W y1) (hr : W.heap.size ≤ r) (hx : Boxed3 y1 r na ao la ca po lp cp) (hf : ∀ j, y1.frozen? ⟨r, j, none⟩ = false) (hz : B ≤ y1.heap.size) :
    RowAt ((y1.setCell ⟨r, 0, none⟩ (.bool na)).setCell ⟨r, 1, none⟩ (.slice ao' la c')) .u64 ao' la c' x ∧ RowAt ((y1.setCell ⟨r, 0, none⟩ (.bool na)).setCell ⟨r, 1, none⟩ (.slice ao' la c')) .u64 po lp cp d ∧ Below W.heap.size W ((y1.setCell ⟨r, 0, none⟩ (.bool na)).setCell ⟨r, 1, none⟩ (.slice ao' la c')) ∧ Boxed3 ((y1.setCell ⟨r, 0, none⟩ (.bool na)).setCell ⟨r, 1, none⟩ (.slice ao' la c')) r na ao' la c' po lp cp ∧ (∀ j, ((y1.setCell ⟨r, 0, none⟩ (.bool na)).setCell ⟨r, 1, none⟩ (.slice ao' la c')).frozen? ⟨r, j, none⟩ = false) ∧ B ≤ ((y1.setCell ⟨r, 0, none⟩ (.bool na)).setCell ⟨r, 1, none⟩ (.slice ao' la c')).heap.size := by
  have hb2 : Boxed ((y1.setCell ⟨r, 0, none⟩ (.bool na)).setCell ⟨r, 1, none⟩ (.slice ao' la c')) r na ao' la c' := boxed_new ⟨hx.1, hx.2.1⟩
  refine ⟨row_kept2 h1 hx.1 hx.2.1, row_kept2 h2 hx.1 hx.2.1, below_store hb hr _ _, ⟨hb2.1, hb2.2, ?_⟩, fun j => by rw [frozen_off, frozen_off]; exact hf j, by simpa [World.setCell] using hz⟩
  simp [go_sem, hx.2.2]
/-- a number in a variable that may be written -/
def OneW (U wx : World) (r : Nat) (v : Int) : Prop := ∃ n o l c, Boxed wx r n o l c ∧ (∀ j, wx.frozen? ⟨r, j, none⟩ = false) ∧ (r < wx.heap.size ∧ U.heap.size ≤ r) ∧ IntAt wx n o l c v ∧ Below U.heap.size U wx
theorem ow_a {U y : World} {n : Bool} {o : Option Addr} {l c : Nat} {v : Int} (hO : Hid (IntAt y n o l c v)) (hb : Below U.heap.size U y) : OneW U (y.alloc (.cells #[.bool n, .slice o l c] 26)) y.heap.size v := by
  have hA : Below y.heap.size y (y.alloc (.cells #[.bool n, .slice o l c] 26)) := (Below.refl _ _).alloc (Nat.le_refl _) _
  exact ⟨n, o, l, c, ⟨by simp [go_sem], by simp [go_sem]⟩, fun j => by simp [go_sem], ⟨by simp, hb.size⟩, hO.out.later hA, below_alloc hb (Nat.le_refl _)⟩
theorem ow_b {U y : World} {n : Bool} {o : Option Addr} {l c r : Nat} {v : Int} (hO : Hid (IntAt y n o l c v)) (hb : Below U.heap.size U y) (hF : Fresh y r) (hU : U.heap.size ≤ r) : OneW U ((y.setCell ⟨r, 0, none⟩ (.bool n)).setCell ⟨r, 1, none⟩ (.slice o l c)) r v :=
  ⟨n, o, l, c, boxed_new ⟨hF.2.1, hF.2.2⟩, fun j => by rw [frozen_off, frozen_off]; exact hF.1 j, ⟨by simpa [World.setCell] using cell_lt hF.2.1, hU⟩, ⟨hO.out.sg, hO.out.row.boxed ⟨hF.2.1, hF.2.2⟩ _ _⟩, below_store hb hU _ _⟩
theorem ow_c {U Y y : World} {n n' : Bool} {o o' : Option Addr} {l c l' c' r : Nat} {v : Int} (hO : Hid (IntAt y n o l c v)) (h0 : Below U.heap.size U Y) (hb : Below Y.heap.size Y y) (hF : Boxed Y r n' o' l' c') (hf : ∀ j, Y.frozen? ⟨r, j, none⟩ = false) (hr : r < Y.heap.size) (hU : U.heap.size ≤ r) : OneW U ((y.setCell ⟨r, 0, none⟩ (.bool n)).setCell ⟨r, 1, none⟩ (.slice o l c)) r v :=
  ⟨n, o, l, c, boxed_new (hF.later hb hr), fun j => by rw [frozen_off, frozen_off]; exact (hb.frozen (p := ⟨r, j, none⟩) hr).trans (hf j), ⟨by have := hb.size; simp [World.setCell]; omega, hU⟩, ⟨hO.out.sg, hO.out.row.boxed (hF.later hb hr) _ _⟩, below_store (bnext h0 hb) hU _ _⟩
set_option maxRecDepth 100000 in
set_option maxHeartbeats 4000000 in
theorem qover_any (na nb : Bool) (ao po bo qo : Option Addr) (la ca lp cp lb cb lq cq : Nat) (a b : Rat) (w : World) (hx : RatAt w na ao la ca po lp cp a) (hy : RatAt w nb bo lb cb qo lq cq b) (ha : Sz a 1000) (hb : Sz b 1000) (hb0 : b ≠ 0) :
    Calls Tryz.prog 88 #[.agg #[.bool na, .slice ao la ca, .slice po lp cp], .agg #[.bool nb, .slice bo lb cb, .slice qo lq cq]] w fun e w' => SomeR w w' e (a / b) := by
  obtain ⟨W, hT⟩ := RTwo3.mk' w na nb ao po bo qo la ca lp cp lb cb lq cq
  have hsz : w.heap.size + 3 ≤ W.heap.size := by rw [hT.size]; exact Nat.le_refl _
  have HX : Hid (RatAt W na ao la ca po lp cp a ∧ RatAt W nb bo lb cb qo lq cq b) := ⟨hx.later hT.below, hy.later hT.below⟩
  have hla : la ≤ 1000 := (hx.len ha).1
  have hlp : lp ≤ 1000 := (hx.len ha).2
  have hlb : lb ≤ 1000 := (hy.len hb).1
  have hlq : lq ≤ 1000 := (hy.len hb).2
  have KW : Hid (∀ w' : World, Below W.heap.size W w' → (Below W.heap.size W w' ∧ w'.cell? ⟨w.heap.size, 0, none⟩ = some (.bool na) ∧ w'.cell? ⟨w.heap.size, 1, none⟩ = some (.slice ao la ca) ∧ w'.cell? ⟨w.heap.size, 2, none⟩ = some (.slice po lp cp) ∧ w'.cell? ⟨w.heap.size + 1, 0, none⟩ = some (.bool nb) ∧ w'.cell? ⟨w.heap.size + 1, 1, none⟩ = some (.slice bo lb cb) ∧ w'.cell? ⟨w.heap.size + 1, 2, none⟩ = some (.slice qo lq cq))) := fun w' h => ⟨h, (h.cell (p := ⟨w.heap.size, 0, none⟩) (by show w.heap.size < _; omega)).trans hT.a.1, (h.cell (p := ⟨w.heap.size, 1, none⟩) (by show w.heap.size < _; omega)).trans hT.a.2.1, (h.cell (p := ⟨w.heap.size, 2, none⟩) (by show w.heap.size < _; omega)).trans hT.a.2.2, (h.cell (p := ⟨w.heap.size + 1, 0, none⟩) (by show w.heap.size + 1 < _; omega)).trans hT.b.1, (h.cell (p := ⟨w.heap.size + 1, 1, none⟩) (by show w.heap.size + 1 < _; omega)).trans hT.b.2.1, (h.cell (p := ⟨w.heap.size + 1, 2, none⟩) (by show w.heap.size + 1 < _; omega)).trans hT.b.2.2⟩
  have HF : Hid (Fresh3 W (w.heap.size + 1 + 1) ∧ Below w.heap.size w W) := ⟨hT.r, hT.below⟩
  have HL : Hid ((mag (a.num * (b.den : Int)).natAbs).length ≤ 3000 ∧ (mag (a.den * b.num.natAbs)).length ≤ 3000) := by
    have h2 := mul_len a.num (b.den : Int)
    have h4 := mag_len_mul a.den b.num.natAbs
    rw [Int.natAbs_natCast] at h2
    have := ha.1; have := ha.2; have := hb.1; have := hb.2
    refine ⟨?_, ?_⟩ <;> omega
  have h0 : a.den * b.num.natAbs ≠ 0 := Nat.mul_ne_zero a.den_nz (fun e => hb0 (Rat.num_eq_zero.1 (Int.natAbs_eq_zero.1 e)))
  have HD : Hid (a / b = Rat.normalize (if b.num < 0 then -(a.num * (b.den : Int)) else a.num * (b.den : Int)) (a.den * b.num.natAbs) h0) := rdiv_mk a b hb0 h0
  have HS : Hid (nb = sgB b.num) := hy.num.sg
  clear hx hy ha hb
  go_enter Tryz.func88, Tryz.ntmps88
  go_upto_region 1 with fail
  rw [← hT.eq]
  clear hT
  go_cut [5] (fun s5 wx => ∃ r5, s5 = .pointer (some ⟨r5, 0, none⟩) ∧ OneW W wx r5 (a.num * (b.den : Int)))
  case first => as_aux_lemma =>
    have hzU : W.heap.size ≤ W.drew.heap.size := Nat.le_refl _
    have S0 : Step8 0 := ⟨trivial⟩
    go_region_held3 (fun w' => (Below W.heap.size W w' ∧ w'.cell? ⟨w.heap.size, 0, none⟩ = some (.bool na) ∧ w'.cell? ⟨w.heap.size, 1, none⟩ = some (.slice ao la ca) ∧ w'.cell? ⟨w.heap.size, 2, none⟩ = some (.slice po lp cp) ∧ w'.cell? ⟨w.heap.size + 1, 0, none⟩ = some (.bool nb) ∧ w'.cell? ⟨w.heap.size + 1, 1, none⟩ = some (.slice bo lb cb) ∧ w'.cell? ⟨w.heap.size + 1, 2, none⟩ = some (.slice qo lq cq)))
      (with_reducible (first | exact KW.out _ (Below.refl _ _).drew | exact KW.out _ (by assumption) | (refine KW.out _ ?_; (repeat (first | refine below_alloc ?_ (Nat.le_refl _) | refine Below.drew ?_ | refine below_set ?_ (by omega))); (first | exact hbF2 | exact hbF1 | exact Below.refl _ _))))
      (first
        | (have _t := S0; go_at_call 69; refine with_held (S := fun w9 => Below W.heap.size W w9) (by show Below _ _ _; with_reducible ((repeat (first | refine below_alloc ?_ (Nat.le_refl _) | refine Below.drew ?_ | refine below_set ?_ (by omega))); (first | exact hbF2 | exact hbF1 | exact Below.refl _ _))) (fun hS => ?_); (first | (with_reducible refine with_held (S := fun w9 => Fresh w9 W.heap.size) (Fresh.drew' (Fresh.new W)) (fun FA => ?_)) | skip); refine (qden_any nb bo qo lb cb lq cq _ (by omega)).mono ?_; rintro e f1 ⟨rfl, hb⟩; skip; have hbF1 : Below W.heap.size W f1 := bnext hS hb; have hzF1 := hbF1.size; (try clear hltA); (try (have hltA := cell_lt FA.2.1; dsimp only at hltA; replace FA := Fresh.next FA hb)); clear hS hb S0; have S1 : Step8 1 := ⟨trivial⟩)
        | (have _t := S1; go_at_call 71; refine with_held (S := fun w9 => Below W.heap.size W w9) (by show Below _ _ _; with_reducible ((repeat (first | refine below_alloc ?_ (Nat.le_refl _) | refine Below.drew ?_ | refine below_set ?_ (by omega))); (first | exact hbF2 | exact hbF1 | exact Below.refl _ _))) (fun hS => ?_); refine with_held (S := fun w9 => Below f1.heap.size f1 w9) (by show Below _ _ _; with_reducible ((repeat (refine below_alloc ?_ (Nat.le_refl _))); exact Below.refl _ _)) (fun hS2 => ?_); (first | (with_reducible refine with_held (S := fun w9 => Fresh w9 f1.heap.size) (Fresh.new f1) (fun FA => ?_)) | skip); refine (rtimes_any na false ao qo la ca lq cq a.num (b.den : Int) _ (HX.out.1.num.later hS) (row_int (HX.out.2.den.later hS)) (by omega) (by omega)).mono ?_; rintro e f2 ⟨n1, o1, l1, c1, rfl, hs, ho, hb⟩; have HO : Hid (IntAt f2 n1 o1 l1 c1 (a.num * (b.den : Int))) := ho.int hs; clear hs ho; have hbF2 : Below W.heap.size W f2 := bnext hS hb; have hzF2 := hbF2.size; (try clear hltA); (try (have hltA := cell_lt FA.2.1; dsimp only at hltA; replace FA := Fresh.next FA hb)); (try (obtain ⟨a5, a3, a4⟩ := FA)); clear hS hb S1; clear hS2; skip))
    all_goals go_wp2
    all_goals go_meet
    all_goals refine ⟨_, rfl, ?_⟩
    all_goals (first
      | (with_reducible exact ow_a HO hbF2)
      | ((with_reducible refine ow_b HO hbF2 ?_ ?_) <;> (first | (with_reducible exact fresh_mk a5 a3 a4) | omega)))
  case rest => as_aux_lemma =>
    obtain ⟨r5, rfl, n8, o8, l8, c8, hbx8, hf8, ⟨hr5, hr5W⟩, hi8, hbV⟩ := hcut
    obtain ⟨Y, hY⟩ : ∃ Z0, Z0 = wc := ⟨_, rfl⟩
    subst hY
    cases nb
    · as_aux_lemma =>
      have HV : Hid (a / b = Rat.normalize (a.num * (b.den : Int)) (a.den * b.num.natAbs) h0) := by
        have h1 := HD.out
        simp only [if_neg (show ¬ b.num < 0 from of_decide_eq_false HS.out.symm)] at h1
        exact h1
      obtain ⟨kh0, kh1, kh2, kh3, kh4, kh5, kh6⟩ := KW.out Y hbV
      go_upto_region 4 with fail
      clear kh0 kh1 kh2 kh3 kh4 kh5 kh6
      obtain ⟨z0, z1⟩ := hbx8
      have hsY := hbV.size
      have HY : Hid (RatAt Y na ao la ca po lp cp a ∧ RatAt Y false bo lb cb qo lq cq b ∧ IntAt Y n8 o8 l8 c8 (a.num * (b.den : Int)) ∧ Fresh3 Y (w.heap.size + 1 + 1) ∧ Below w.heap.size w Y) := ⟨HX.out.1.later hbV, HX.out.2.later hbV, hi8, HF.out.1.later hbV (by omega), bnext HF.out.2 hbV⟩
      have hl8 : l8 ≤ 3000 := by rw [hi8.row.hlen]; exact HL.out.1
      have KY : Hid (∀ w' : World, Below Y.heap.size Y w' → (w'.cell? ⟨w.heap.size, 0, none⟩ = some (.bool na) ∧ w'.cell? ⟨w.heap.size, 1, none⟩ = some (.slice ao la ca) ∧ w'.cell? ⟨w.heap.size, 2, none⟩ = some (.slice po lp cp) ∧ w'.cell? ⟨w.heap.size + 1, 0, none⟩ = some (.bool false) ∧ w'.cell? ⟨w.heap.size + 1, 1, none⟩ = some (.slice bo lb cb) ∧ w'.cell? ⟨w.heap.size + 1, 2, none⟩ = some (.slice qo lq cq) ∧ w'.cell? ⟨r5, 0, none⟩ = some (.bool n8) ∧ w'.cell? ⟨r5, 1, none⟩ = some (.slice o8 l8 c8))) := fun w' h => by
        obtain ⟨h0, h1, h2, h3, h4, h5, h6⟩ := KW.out w' (bnext hbV h)
        exact ⟨h1, h2, h3, h4, h5, h6, (h.cell (p := ⟨r5, 0, none⟩) hr5).trans z0, (h.cell (p := ⟨r5, 1, none⟩) hr5).trans z1⟩
      have KS : Hid (∀ X : World, Below Y.heap.size Y X → ∀ x y z, (fun w' : World => w'.cell? ⟨w.heap.size, 0, none⟩ = some (.bool na) ∧ w'.cell? ⟨w.heap.size, 1, none⟩ = some (.slice ao la ca) ∧ w'.cell? ⟨w.heap.size, 2, none⟩ = some (.slice po lp cp) ∧ w'.cell? ⟨w.heap.size + 1, 0, none⟩ = some (.bool false) ∧ w'.cell? ⟨w.heap.size + 1, 1, none⟩ = some (.slice bo lb cb) ∧ w'.cell? ⟨w.heap.size + 1, 2, none⟩ = some (.slice qo lq cq) ∧ w'.cell? ⟨r5, 0, none⟩ = some (.bool n8) ∧ w'.cell? ⟨r5, 1, none⟩ = some (.slice o8 l8 c8)) (((X.setCell ⟨w.heap.size + 1 + 1, 0, none⟩ x).setCell ⟨w.heap.size + 1 + 1, 1, none⟩ y).setCell ⟨w.heap.size + 1 + 1, 2, none⟩ z)) := fun X h x y z => by
        have hr5W : w.heap.size + 1 + 1 < r5 := by omega
        obtain ⟨h1, h2, h3, h4, h5, h6, y1, y2⟩ := KY.out X h
        have off : ∀ (b j : Nat), b ≠ w.heap.size + 1 + 1 → (((X.setCell ⟨w.heap.size + 1 + 1, 0, none⟩ x).setCell ⟨w.heap.size + 1 + 1, 1, none⟩ y).setCell ⟨w.heap.size + 1 + 1, 2, none⟩ z).cell? ⟨b, j, none⟩ = X.cell? ⟨b, j, none⟩ := fun b j hn => by rw [cell_off hn, cell_off hn, cell_off hn]
        dsimp only
        rw [off _ _ (by omega), off _ _ (by omega), off _ _ (by omega), off _ _ (by omega), off _ _ (by omega), off _ _ (by omega), off _ _ (by omega), off _ _ (by omega)]
        exact ⟨h1, h2, h3, h4, h5, h6, y1, y2⟩
      have hrY : w.heap.size + 1 + 1 < Y.heap.size := by omega
      clear hi8 hbV
      have hzU : Y.heap.size ≤ Y.drew.heap.size := Nat.le_refl _
      have S0 : Step8 0 := ⟨trivial⟩
      go_region_held3 (fun w' => (w'.cell? ⟨w.heap.size, 0, none⟩ = some (.bool na) ∧ w'.cell? ⟨w.heap.size, 1, none⟩ = some (.slice ao la ca) ∧ w'.cell? ⟨w.heap.size, 2, none⟩ = some (.slice po lp cp) ∧ w'.cell? ⟨w.heap.size + 1, 0, none⟩ = some (.bool false) ∧ w'.cell? ⟨w.heap.size + 1, 1, none⟩ = some (.slice bo lb cb) ∧ w'.cell? ⟨w.heap.size + 1, 2, none⟩ = some (.slice qo lq cq) ∧ w'.cell? ⟨r5, 0, none⟩ = some (.bool n8) ∧ w'.cell? ⟨r5, 1, none⟩ = some (.slice o8 l8 c8)))
        (with_reducible (first | exact KS.out _ hbF2 _ _ _ | exact KY.out _ (Below.refl _ _).drew | exact KY.out _ (by assumption) | (refine KY.out _ ?_; (repeat (first | refine below_alloc ?_ (Nat.le_refl _) | refine Below.drew ?_ | refine below_set ?_ (by omega))); (first | exact hbF2 | exact hbF1 | exact Below.refl _ _))))
        (first
          | (have _t := S0; go_at_call 90; refine with_held (S := fun w9 => Below Y.heap.size Y w9) (by show Below _ _ _; with_reducible ((repeat (first | refine below_alloc ?_ (Nat.le_refl _) | refine Below.drew ?_ | refine below_set ?_ (by omega))); (first | exact hbF2 | exact hbF1 | exact Below.refl _ _))) (fun hS => ?_); refine (ntimes_any po bo lp cp lb cb a.den b.num.natAbs _ (HY.out.1.den.later hS) (HY.out.2.1.num.row.later hS) (by omega) (by omega)).mono ?_; rintro e f1 ⟨o4, l4, c4, rfl, ho, hb⟩; have H1 : Hid (RowAt f1 .u64 o4 l4 c4 (mag (a.den * b.num.natAbs))) := ho.row; have hl4 : l4 ≤ 3000 := (by rw [ho.row.hlen]; exact HL.out.2); clear ho; have hbF1 : Below Y.heap.size Y f1 := bnext hS hb; have hzF1 := hbF1.size; clear hS hb S0; have S1 : Step8 1 := ⟨trivial⟩)
          | (have _t := S1; go_at_call 36; refine with_held (S := fun w9 => Below Y.heap.size Y w9) (by show Below _ _ _; with_reducible ((repeat (first | refine below_alloc ?_ (Nat.le_refl _) | refine Below.drew ?_ | refine below_set ?_ (by omega))); (first | exact hbF2 | exact hbF1 | exact Below.refl _ _))) (fun hS => ?_); refine with_held (S := fun w9 => Below f1.heap.size f1 w9) (by show Below _ _ _; with_reducible ((repeat (refine below_alloc ?_ (Nat.le_refl _))); exact Below.refl _ _)) (fun hS2 => ?_); refine (qmake_any n8 o8 o4 l8 c8 l4 c4 (a.num * (b.den : Int)) (a.den * b.num.natAbs) _ (HY.out.2.2.1.later hS) (H1.out.later hS2) h0 (by omega) (by omega) (a / b) HV.out).mono ?_; rintro e f2 ⟨nz, oz, lz, cz, pz, mz, dz, rfl, hz, hb⟩; have HZ : Hid (RatAt f2 nz oz lz cz pz mz dz (a / b) ∧ Below Y.heap.size Y f2) := ⟨hz, bnext hS hb⟩; clear hz; obtain ⟨k5, k2, k3, k4⟩ := HY.out.2.2.2.1.later (bnext hS hb) hrY; have hbF2 : Below Y.heap.size Y f2 := bnext hS hb; have hzF2 := hbF2.size; clear hS hb S1; clear hS2; skip))
      all_goals go_wp2
      exact bodyPost_ret (v := .agg #[.bool nz, .slice oz lz cz, .slice pz mz dz]) (by simp [results, Tryz.results88, go_sem, k2, k3, k4]) rfl
        ⟨_, _, _, _, _, _, _, rfl, rat_kept HZ.out.1 ⟨k2, k3, k4⟩, below_store3 (bnext HY.out.2.2.2.2 HZ.out.2) (by omega) _ _ _⟩
    · as_aux_lemma =>
      have HV : Hid (a / b = Rat.normalize (-(a.num * (b.den : Int))) (a.den * b.num.natAbs) h0) := by
        have h1 := HD.out
        simp only [if_pos (show b.num < 0 from of_decide_eq_true HS.out.symm)] at h1
        exact h1
      obtain ⟨kh0, kh1, kh2, kh3, kh4, kh5, kh6⟩ := KW.out Y hbV
      have hsY := hbV.size
      go_upto_region 3 with fail
      go_cut [15] (fun s15 wx => OneW W wx r5 (-(a.num * (b.den : Int))))
      case first => as_aux_lemma =>
        obtain ⟨z0, z1⟩ := hbx8
        have HB : Hid (Boxed Y r5 n8 o8 l8 c8 ∧ (∀ j, Y.frozen? ⟨r5, j, none⟩ = false) ∧ IntAt Y n8 o8 l8 c8 (a.num * (b.den : Int)) ∧ l8 ≤ 3000 ∧ Below W.heap.size W Y) := ⟨⟨z0, z1⟩, hf8, hi8, by rw [hi8.row.hlen]; exact HL.out.1, hbV⟩
        clear hf8 hi8 hbV
        go_wp2_with (go_at_call 66; refine (rneg_any n8 o8 l8 c8 (a.num * (b.den : Int)) _ HB.out.2.2.1 (by have := HB.out.2.2.2.1; omega)).mono ?_; rintro e y5 ⟨n5, o5, l5, c5, rfl, hi5, hb5⟩; have HO : Hid (IntAt y5 n5 o5 l5 c5 (-(a.num * (b.den : Int))) ∧ Below Y.heap.size Y y5) := ⟨hi5, hb5⟩; clear hi5; clear z0 z1; obtain ⟨z0, z1⟩ := HB.out.1.later hb5 hr5; have z5 : ∀ j, y5.frozen? ⟨r5, j, none⟩ = false := (fun j => (hb5.frozen (p := ⟨r5, j, none⟩) hr5).trans (HB.out.2.1 j)); clear hb5)
        go_meet
        exact ow_c HO.out.1 HB.out.2.2.2.2 HO.out.2 HB.out.1 HB.out.2.1 hr5 hr5W
      case rest => as_aux_lemma =>
        clear hbx8 hf8 hr5 hr5W hi8
        obtain ⟨n8, o8, l8, c8, hbx8, hf8, ⟨hr5, hr5W⟩, hi8, hbV⟩ := hcut
        obtain ⟨Q, hQ⟩ : ∃ Z0, Z0 = wc := ⟨_, rfl⟩
        subst hQ
        obtain ⟨z0, z1⟩ := hbx8
        have hsQ := hbV.size
        have HQ : Hid (RatAt Q na ao la ca po lp cp a ∧ RatAt Q true bo lb cb qo lq cq b ∧ IntAt Q n8 o8 l8 c8 (-(a.num * (b.den : Int))) ∧ Fresh3 Q (w.heap.size + 1 + 1) ∧ Below w.heap.size w Q) := ⟨HX.out.1.later hbV, HX.out.2.later hbV, hi8, HF.out.1.later hbV (by omega), bnext HF.out.2 hbV⟩
        have hl8 : l8 ≤ 3000 := by rw [hi8.row.hlen]; exact (by rw [Int.natAbs_neg]; exact HL.out.1)
        have KQ : Hid (∀ w' : World, Below Q.heap.size Q w' → (w'.cell? ⟨w.heap.size, 0, none⟩ = some (.bool na) ∧ w'.cell? ⟨w.heap.size, 1, none⟩ = some (.slice ao la ca) ∧ w'.cell? ⟨w.heap.size, 2, none⟩ = some (.slice po lp cp) ∧ w'.cell? ⟨w.heap.size + 1, 0, none⟩ = some (.bool true) ∧ w'.cell? ⟨w.heap.size + 1, 1, none⟩ = some (.slice bo lb cb) ∧ w'.cell? ⟨w.heap.size + 1, 2, none⟩ = some (.slice qo lq cq) ∧ w'.cell? ⟨r5, 0, none⟩ = some (.bool n8) ∧ w'.cell? ⟨r5, 1, none⟩ = some (.slice o8 l8 c8))) := fun w' h => by
          obtain ⟨h0, h1, h2, h3, h4, h5, h6⟩ := KW.out w' (bnext hbV h)
          exact ⟨h1, h2, h3, h4, h5, h6, (h.cell (p := ⟨r5, 0, none⟩) hr5).trans z0, (h.cell (p := ⟨r5, 1, none⟩) hr5).trans z1⟩
        have KS : Hid (∀ X : World, Below Q.heap.size Q X → ∀ x y z, (fun w' : World => w'.cell? ⟨w.heap.size, 0, none⟩ = some (.bool na) ∧ w'.cell? ⟨w.heap.size, 1, none⟩ = some (.slice ao la ca) ∧ w'.cell? ⟨w.heap.size, 2, none⟩ = some (.slice po lp cp) ∧ w'.cell? ⟨w.heap.size + 1, 0, none⟩ = some (.bool true) ∧ w'.cell? ⟨w.heap.size + 1, 1, none⟩ = some (.slice bo lb cb) ∧ w'.cell? ⟨w.heap.size + 1, 2, none⟩ = some (.slice qo lq cq) ∧ w'.cell? ⟨r5, 0, none⟩ = some (.bool n8) ∧ w'.cell? ⟨r5, 1, none⟩ = some (.slice o8 l8 c8)) (((X.setCell ⟨w.heap.size + 1 + 1, 0, none⟩ x).setCell ⟨w.heap.size + 1 + 1, 1, none⟩ y).setCell ⟨w.heap.size + 1 + 1, 2, none⟩ z)) := fun X h x y z => by
          have hr5W : w.heap.size + 1 + 1 < r5 := by omega
          obtain ⟨h1, h2, h3, h4, h5, h6, y1, y2⟩ := KQ.out X h
          have off : ∀ (b j : Nat), b ≠ w.heap.size + 1 + 1 → (((X.setCell ⟨w.heap.size + 1 + 1, 0, none⟩ x).setCell ⟨w.heap.size + 1 + 1, 1, none⟩ y).setCell ⟨w.heap.size + 1 + 1, 2, none⟩ z).cell? ⟨b, j, none⟩ = X.cell? ⟨b, j, none⟩ := fun b j hn => by rw [cell_off hn, cell_off hn, cell_off hn]
          dsimp only
          rw [off _ _ (by omega), off _ _ (by omega), off _ _ (by omega), off _ _ (by omega), off _ _ (by omega), off _ _ (by omega), off _ _ (by omega), off _ _ (by omega)]
          exact ⟨h1, h2, h3, h4, h5, h6, y1, y2⟩
        have hrQ : w.heap.size + 1 + 1 < Q.heap.size := by omega
        clear hi8 hbV
        go_upto_region 4 with fail
        have hzU : Q.heap.size ≤ Q.drew.heap.size := Nat.le_refl _
        have S0 : Step8 0 := ⟨trivial⟩
        go_region_held3 (fun w' => (w'.cell? ⟨w.heap.size, 0, none⟩ = some (.bool na) ∧ w'.cell? ⟨w.heap.size, 1, none⟩ = some (.slice ao la ca) ∧ w'.cell? ⟨w.heap.size, 2, none⟩ = some (.slice po lp cp) ∧ w'.cell? ⟨w.heap.size + 1, 0, none⟩ = some (.bool true) ∧ w'.cell? ⟨w.heap.size + 1, 1, none⟩ = some (.slice bo lb cb) ∧ w'.cell? ⟨w.heap.size + 1, 2, none⟩ = some (.slice qo lq cq) ∧ w'.cell? ⟨r5, 0, none⟩ = some (.bool n8) ∧ w'.cell? ⟨r5, 1, none⟩ = some (.slice o8 l8 c8)))
          (with_reducible (first | exact KS.out _ hbF2 _ _ _ | exact KQ.out _ (Below.refl _ _).drew | exact KQ.out _ (by assumption) | (refine KQ.out _ ?_; (repeat (first | refine below_alloc ?_ (Nat.le_refl _) | refine Below.drew ?_ | refine below_set ?_ (by omega))); (first | exact hbF2 | exact hbF1 | exact Below.refl _ _))))
          (first
            | (have _t := S0; go_at_call 90; refine with_held (S := fun w9 => Below Q.heap.size Q w9) (by show Below _ _ _; with_reducible ((repeat (first | refine below_alloc ?_ (Nat.le_refl _) | refine Below.drew ?_ | refine below_set ?_ (by omega))); (first | exact hbF2 | exact hbF1 | exact Below.refl _ _))) (fun hS => ?_); refine (ntimes_any po bo lp cp lb cb a.den b.num.natAbs _ (HQ.out.1.den.later hS) (HQ.out.2.1.num.row.later hS) (by omega) (by omega)).mono ?_; rintro e f1 ⟨o4, l4, c4, rfl, ho, hb⟩; have H1 : Hid (RowAt f1 .u64 o4 l4 c4 (mag (a.den * b.num.natAbs))) := ho.row; have hl4 : l4 ≤ 3000 := (by rw [ho.row.hlen]; exact HL.out.2); clear ho; have hbF1 : Below Q.heap.size Q f1 := bnext hS hb; have hzF1 := hbF1.size; clear hS hb S0; have S1 : Step8 1 := ⟨trivial⟩)
            | (have _t := S1; go_at_call 36; refine with_held (S := fun w9 => Below Q.heap.size Q w9) (by show Below _ _ _; with_reducible ((repeat (first | refine below_alloc ?_ (Nat.le_refl _) | refine Below.drew ?_ | refine below_set ?_ (by omega))); (first | exact hbF2 | exact hbF1 | exact Below.refl _ _))) (fun hS => ?_); refine with_held (S := fun w9 => Below f1.heap.size f1 w9) (by show Below _ _ _; with_reducible ((repeat (refine below_alloc ?_ (Nat.le_refl _))); exact Below.refl _ _)) (fun hS2 => ?_); refine (qmake_any n8 o8 o4 l8 c8 l4 c4 (-(a.num * (b.den : Int))) (a.den * b.num.natAbs) _ (HQ.out.2.2.1.later hS) (H1.out.later hS2) h0 (by omega) (by omega) (a / b) HV.out).mono ?_; rintro e f2 ⟨nz, oz, lz, cz, pz, mz, dz, rfl, hz, hb⟩; have HZ : Hid (RatAt f2 nz oz lz cz pz mz dz (a / b) ∧ Below Q.heap.size Q f2) := ⟨hz, bnext hS hb⟩; clear hz; obtain ⟨k5, k2, k3, k4⟩ := HQ.out.2.2.2.1.later (bnext hS hb) hrQ; have hbF2 : Below Q.heap.size Q f2 := bnext hS hb; have hzF2 := hbF2.size; clear hS hb S1; clear hS2; skip))
        all_goals go_wp2
        exact bodyPost_ret (v := .agg #[.bool nz, .slice oz lz cz, .slice pz mz dz]) (by simp [results, Tryz.results88, go_sem, k2, k3, k4]) rfl
          ⟨_, _, _, _, _, _, _, rfl, rat_kept HZ.out.1 ⟨k2, k3, k4⟩, below_store3 (bnext HQ.out.2.2.2.2 HZ.out.2) (by omega) _ _ _⟩
end Go.Proofs.YtiiefpnkpfliiaaGreatDoor
