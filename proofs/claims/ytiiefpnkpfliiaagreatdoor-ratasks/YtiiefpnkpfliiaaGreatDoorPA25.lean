/-
  Walks: what rat refuses; differences, quotients; copies; answers that are written over. (gen/rbad.py)
-/
import Derived.Test.YtiiefpnkpfliiaaGreatDoorPA08
import Derived.Test.YtiiefpnkpfliiaaGreatDoorPA17
import Derived.Test.YtiiefpnkpfliiaaGreatDoorPA18
import Derived.Test.YtiiefpnkpfliiaaGreatDoorPA22
import Derived.Test.YtiiefpnkpfliiaaGreatDoorPA23
import Derived.Test.YtiiefpnkpfliiaaGreatDoorPA24
namespace Go.Proofs.YtiiefpnkpfliiaaGreatDoor
open Go.RowKit
set_option linter.unusedVariables false
set_option linter.unusedSimpArgs false
set_option maxRecDepth 100000 in
set_option maxHeartbeats 4000000 in
theorem rcheck_bad (na : Bool) (ao po : Option Addr) (la ca lp cp : Nat) (x d : List Int) (w : World) (hx : RowAt w .u64 ao la ca x) (wx : Wd 18446744073709551616 x) (hd : RowAt w .u64 po lp cp d) (wd : Wd 18446744073709551616 d) (hl : la ≤ 16777216) (hl' : lp ≤ 16777216) (hT0 : TabAt 0 Lib.deBruijn64tab w) (hm : mayR na x d = false) :
    Calls Tryz.prog 10 #[.agg #[.bool na, .slice ao la ca, .slice po lp cp]] w fun e w' => e = .returned (.int .i64 20) ∧ Below w.heap.size w w' := by
  obtain ⟨W, hW⟩ := ROne1.mk' w na ao po la ca lp cp
  have hsz := hW.size
  have HX : Hid (RowAt W .u64 ao la ca x ∧ RowAt W .u64 po lp cp d) := ⟨hx.later hW.below, hd.later hW.below⟩
  have HTb : Hid (TabAt 0 Lib.deBruijn64tab W) := tab_later hT0 hW.below
  have HLd : Hid (lp = d.length) := hd.hlen
  cases h1 : mayB na x
  · have HC1 : Hid ((if mayB na x then 0 else 10 : Int) = 10) := by show _ = _; rw [h1]; rfl
    clear hx hd hT0 hm h1
    go_enter Tryz.func10, Tryz.ntmps10
    go_wp2_with (go_at_call 51; rw [← hW.eq]; refine (check_at na ao la ca x _ HX.out.1 (by omega) 10 HC1.out).mono ?_; rintro e w1 ⟨rfl, hb1⟩; obtain ⟨p0, p1, p2⟩ := hW.a.later hb1 (by omega))
    go_ret
    exact ⟨rfl, bnext hW.below hb1⟩
  · have HC1 : Hid ((if mayB na x then 0 else 10 : Int) = 0) := by show _ = _; rw [h1]; rfl
    cases h2 : mayB false d
    · have HC2 : Hid ((if mayB false d then 0 else 10 : Int) = 10) := by show _ = _; rw [h2]; rfl
      clear hx hd hT0 hm h1 h2
      go_enter Tryz.func10, Tryz.ntmps10
      go_wp2_with (first
        | (go_at_call 51; have _t := hb1; refine (check_at false po lp cp d _ (HX.out.2.later hb1) (by omega) 10 HC2.out).mono ?_; rintro e w2 ⟨rfl, hb2⟩; clear p0 p1 p2; obtain ⟨p0, p1, p2⟩ := hW.a.later (bnext hb1 hb2) (by omega))
        | (go_at_call 51; rw [← hW.eq]; refine (check_at na ao la ca x _ HX.out.1 (by omega) 0 HC1.out).mono ?_; rintro e w1 ⟨rfl, hb1⟩; obtain ⟨p0, p1, p2⟩ := hW.a.later hb1 (by omega)))
      go_ret
      exact ⟨rfl, bnext hW.below (bnext hb1 hb2)⟩
    · have HC2 : Hid ((if mayB false d then 0 else 10 : Int) = 0) := by show _ = _; rw [h2]; rfl
      by_cases h3 : lp = 0
      · have h3' : ((lp : Int) == 0) = true := by simp; omega
        clear hx hd hT0 hm h1 h2 h3
        go_enter Tryz.func10, Tryz.ntmps10
        go_wp2_with (first
          | (go_at_call 51; have _t := hb1; refine (check_at false po lp cp d _ (HX.out.2.later hb1) (by omega) 0 HC2.out).mono ?_; rintro e w2 ⟨rfl, hb2⟩; clear p0 p1 p2; obtain ⟨p0, p1, p2⟩ := hW.a.later (bnext hb1 hb2) (by omega))
          | (go_at_call 51; rw [← hW.eq]; refine (check_at na ao la ca x _ HX.out.1 (by omega) 0 HC1.out).mono ?_; rintro e w1 ⟨rfl, hb1⟩; obtain ⟨p0, p1, p2⟩ := hW.a.later hb1 (by omega)))
        go_ret
        exact ⟨rfl, bnext hW.below (bnext hb1 hb2)⟩
      · have h3' : ((lp : Int) == 0) = false := by simp; omega
        obtain ⟨v, hv, ev⟩ := int_of_may HX.out.1 wx h1
        obtain ⟨u, hu, eu⟩ := int_of_may HX.out.2 wd h2
        have HG : Hid (decide (Nat.gcd v.natAbs u.natAbs = 1) = false) := by
          show _ = _
          rw [← hm]; unfold mayR
          rw [h1, h2, decide_eq_true (show 0 < d.length by have := HLd.out; omega), Bool.true_and, Bool.true_and, Bool.true_and, ev, eu, mag_val, mag_val, Int.natAbs_natCast, Int.natAbs_natCast]
        have HR : Hid (RowAt W .u64 ao la ca (mag v.natAbs) ∧ RowAt W .u64 po lp cp (mag u.natAbs) ∧ 0 < u.natAbs) := ⟨hv.row, hu.row, mag_len_pos.1 (by rw [← hu.row.hlen]; omega)⟩
        clear hx hd hT0 hm h1 h2 hv hu ev eu
        go_enter Tryz.func10, Tryz.ntmps10
        go_wp2_with (first
          | (go_at_call 51; have _t := hb1; refine (check_at false po lp cp d _ (HX.out.2.later hb1) (by omega) 0 HC2.out).mono ?_; rintro e w2 ⟨rfl, hb2⟩; clear p0 p1 p2; obtain ⟨p0, p1, p2⟩ := hW.a.later (bnext hb1 hb2) (by omega))
          | (go_at_call 51; rw [← hW.eq]; refine (check_at na ao la ca x _ HX.out.1 (by omega) 0 HC1.out).mono ?_; rintro e w1 ⟨rfl, hb1⟩; obtain ⟨p0, p1, p2⟩ := hW.a.later hb1 (by omega))
          | (go_at_call 52; refine (apart_any ao po la ca lp cp _ _ _ (HR.out.1.later (bnext hb1 hb2)) (HR.out.2.1.later (bnext hb1 hb2)) HR.out.2.2 (by omega) (by omega) (tab_later HTb.out (bnext hb1 hb2)) false HG.out).mono ?_; rintro e w3 ⟨rfl, hb3⟩))
        go_ret
        exact ⟨rfl, bnext hW.below (bnext (bnext hb1 hb2) hb3)⟩
set_option maxRecDepth 100000 in
set_option maxHeartbeats 4000000 in
theorem checkBoth_bad (na nb : Bool) (ao po bo qo : Option Addr) (la ca lp cp lb cb lq cq : Nat) (x d y f : List Int) (w : World) (hx : RowAt w .u64 ao la ca x) (wx : Wd 18446744073709551616 x) (hd : RowAt w .u64 po lp cp d) (wd : Wd 18446744073709551616 d) (hy : RowAt w .u64 bo lb cb y) (wy : Wd 18446744073709551616 y) (hf : RowAt w .u64 qo lq cq f) (wf : Wd 18446744073709551616 f) (hla : la ≤ 16777216) (hlp : lp ≤ 16777216) (hlb : lb ≤ 16777216) (hlq : lq ≤ 16777216) (hT0 : TabAt 0 Lib.deBruijn64tab w) (hm : (mayR na x d && mayR nb y f) = false) :
    Calls Tryz.prog 73 #[.agg #[.bool na, .slice ao la ca, .slice po lp cp], .agg #[.bool nb, .slice bo lb cb, .slice qo lq cq]] w fun e w' => e = .returned (.int .i64 20) ∧ Below w.heap.size w w' := by
  obtain ⟨W, hW⟩ := RTwo2.mk' w na nb ao po bo qo la ca lp cp lb cb lq cq
  have hsz := hW.size
  have HX : Hid (RowAt W .u64 ao la ca x ∧ RowAt W .u64 po lp cp d ∧ RowAt W .u64 bo lb cb y ∧ RowAt W .u64 qo lq cq f ∧ TabAt 0 Lib.deBruijn64tab W) := ⟨hx.later hW.below, hd.later hW.below, hy.later hW.below, hf.later hW.below, tab_later hT0 hW.below⟩
  have HWd : Hid (Wd 18446744073709551616 x ∧ Wd 18446744073709551616 d ∧ Wd 18446744073709551616 y ∧ Wd 18446744073709551616 f) := ⟨wx, wd, wy, wf⟩
  clear hx hd hy hf wx wd wy wf hT0
  cases h1 : mayR na x d
  · have H1 : Hid (mayR na x d = false) := h1
    clear hm h1
    go_enter Tryz.func73, Tryz.ntmps73
    go_wp2_with (go_at_call 10; rw [← hW.eq]; refine (rcheck_bad na ao po la ca lp cp x d _ HX.out.1 HWd.out.1 HX.out.2.1 HWd.out.2.1 hla hlp HX.out.2.2.2.2 H1.out).mono ?_; rintro e w1 ⟨rfl, hb1⟩)
    go_ret
    exact ⟨rfl, bnext hW.below hb1⟩
  · have H2 : Hid (mayR nb y f = false) := by rw [h1] at hm; exact hm
    obtain ⟨a, hA, _, _⟩ := rat_of_may HX.out.1 HWd.out.1 HX.out.2.1 HWd.out.2.1 h1
    have HA : Hid (RatAt W na ao la ca po lp cp a) := hA
    clear hm h1 hA
    go_enter Tryz.func73, Tryz.ntmps73
    go_wp2_with (first
      | (go_at_call 10; have _t := hb1; refine (rcheck_bad nb bo qo lb cb lq cq y f _ (HX.out.2.2.1.later hb1) HWd.out.2.2.1 (HX.out.2.2.2.1.later hb1) HWd.out.2.2.2 hlb hlq (tab_later HX.out.2.2.2.2 hb1) H2.out).mono ?_; rintro e w2 ⟨rfl, hb2⟩)
      | (go_at_call 10; rw [← hW.eq]; refine (rcheck_good na ao po la ca lp cp a _ HA.out (by omega) (by omega) HX.out.2.2.2.2).mono ?_; rintro e w1 ⟨rfl, hb1⟩; obtain ⟨p0, p1, p2⟩ := hW.b.later hb1 (by omega)))
    go_ret
    exact ⟨rfl, bnext hW.below (bnext hb1 hb2)⟩
end Go.Proofs.YtiiefpnkpfliiaaGreatDoor
/-
  Walks: a copy, an answer held against the page's, what is refused.
-/
namespace Go.Proofs.YtiiefpnkpfliiaaGreatDoor
open Go.RowKit
set_option linter.unusedVariables false
set_option linter.unusedSimpArgs false
theorem eqint_same (neg : Bool) (ao bo : Option Addr) (la ca lb cb : Nat) (x : List Int) (w : World) (hx : RowAt w .u64 ao la ca x) (hy : RowAt w .u64 bo lb cb x) (hl : la ≤ 4611686018427387904) :
    Calls Tryz.prog 11 #[.agg #[.bool neg, .slice ao la ca], .agg #[.bool neg, .slice bo lb cb]] w fun e w' => e = .returned (.bool true) ∧ Below w.heap.size w w' := by
  refine (eqint_any neg neg ao bo la ca lb cb x x w hx hy hl).mono fun e w' h => ?_
  simpa using h
end Go.Proofs.YtiiefpnkpfliiaaGreatDoor
/-
  Lists of pairs of rationals; rationals in variables; what wakes.
-/
namespace Go.Proofs.YtiiefpnkpfliiaaGreatDoor
open Go.RowKit
set_option linter.unusedVariables false
set_option linter.unusedSimpArgs false
/-- two rationals and a count lie in block b from o on: whatever they are -/
def ElemR (w : World) (b o : Nat) : Prop :=
  ∃ (na nb : Bool) (ao po bo qo : Option Addr) (la ca lp cp lb cb lq cq : Nat) (N : Int) (x d y f : List Int),
    (w.cell? ⟨b, o, none⟩ = some (.bool na) ∧ w.cell? ⟨b, o + 1, none⟩ = some (.slice ao la ca) ∧ w.cell? ⟨b, o + 2, none⟩ = some (.slice po lp cp) ∧ w.cell? ⟨b, o + 3, none⟩ = some (.bool nb) ∧ w.cell? ⟨b, o + 4, none⟩ = some (.slice bo lb cb) ∧ w.cell? ⟨b, o + 5, none⟩ = some (.slice qo lq cq) ∧ w.cell? ⟨b, o + 6, none⟩ = some (.int .i64 N)) ∧
    RowAt w .u64 ao la ca x ∧ Wd 18446744073709551616 x ∧ RowAt w .u64 po lp cp d ∧ Wd 18446744073709551616 d ∧ RowAt w .u64 bo lb cb y ∧ Wd 18446744073709551616 y ∧ RowAt w .u64 qo lq cq f ∧ Wd 18446744073709551616 f ∧ -9223372036854775808 ≤ N ∧ N ≤ 9223372036854775807
/-- a list of such -/
def ElemsR (w : World) (lo : Option Addr) (n : Nat) : Prop := ∀ i, i < n → ∃ b off, lo = some ⟨b, off, none⟩ ∧ b < w.heap.size ∧ ElemR w b (off + i * 7)
theorem ElemR.later {w w' : World} {b o : Nat} (h : ElemR w b o) (hb : Below w.heap.size w w') (hlt : b < w.heap.size) : ElemR w' b o := by
  obtain ⟨na, nb, ao, po, bo, qo, la, ca, lp, cp, lb, cb, lq, cq, N, x, d, y, f, ⟨h0, h1, h2, h3, h4, h5, h6⟩, r1, w1, r2, w2, r3, w3, r4, w4, hn⟩ := h
  exact ⟨na, nb, ao, po, bo, qo, la, ca, lp, cp, lb, cb, lq, cq, N, x, d, y, f, ⟨(hb.cell (p := ⟨b, o, none⟩) hlt).trans h0, (hb.cell (p := ⟨b, o + 1, none⟩) hlt).trans h1, (hb.cell (p := ⟨b, o + 2, none⟩) hlt).trans h2, (hb.cell (p := ⟨b, o + 3, none⟩) hlt).trans h3, (hb.cell (p := ⟨b, o + 4, none⟩) hlt).trans h4, (hb.cell (p := ⟨b, o + 5, none⟩) hlt).trans h5, (hb.cell (p := ⟨b, o + 6, none⟩) hlt).trans h6⟩, r1.later hb, w1, r2.later hb, w2, r3.later hb, w3, r4.later hb, w4, hn⟩
/-- a pair in a variable of its own -/
def Boxed7 (W : World) (r : Nat) (na nb : Bool) (ao po bo qo : Option Addr) (la ca lp cp lb cb lq cq : Nat) (N : Int) : Prop := W.cell? ⟨r, 0, none⟩ = some (.bool na) ∧ W.cell? ⟨r, 1, none⟩ = some (.slice ao la ca) ∧ W.cell? ⟨r, 2, none⟩ = some (.slice po lp cp) ∧ W.cell? ⟨r, 3, none⟩ = some (.bool nb) ∧ W.cell? ⟨r, 4, none⟩ = some (.slice bo lb cb) ∧ W.cell? ⟨r, 5, none⟩ = some (.slice qo lq cq) ∧ W.cell? ⟨r, 6, none⟩ = some (.int .i64 N)
theorem Boxed7.later {W w2 : World} {B r : Nat} {na nb : Bool} {ao po bo qo : Option Addr} {la ca lp cp lb cb lq cq : Nat} {N : Int} (k : Boxed7 W r na nb ao po bo qo la ca lp cp lb cb lq cq N) (h : Below B W w2) (hr : r < B) : Boxed7 w2 r na nb ao po bo qo la ca lp cp lb cb lq cq N :=
  ⟨(h.cell (p := ⟨r, 0, none⟩) hr).trans k.1, (h.cell (p := ⟨r, 1, none⟩) hr).trans k.2.1, (h.cell (p := ⟨r, 2, none⟩) hr).trans k.2.2.1, (h.cell (p := ⟨r, 3, none⟩) hr).trans k.2.2.2.1, (h.cell (p := ⟨r, 4, none⟩) hr).trans k.2.2.2.2.1, (h.cell (p := ⟨r, 5, none⟩) hr).trans k.2.2.2.2.2.1, (h.cell (p := ⟨r, 6, none⟩) hr).trans k.2.2.2.2.2.2⟩
structure InR (w W : World) (na nb : Bool) (ao po bo qo : Option Addr) (la ca lp cp lb cb lq cq : Nat) (N : Int) : Prop where
  eq : W = w.alloc (.cells #[.bool na, .slice ao la ca, .slice po lp cp, .bool nb, .slice bo lb cb, .slice qo lq cq, .int .i64 N] 30)
  below : Below w.heap.size w W
  size : W.heap.size = w.heap.size + 1
  p : Boxed7 W w.heap.size na nb ao po bo qo la ca lp cp lb cb lq cq N
theorem InR.mk' (w : World) (na nb : Bool) (ao po bo qo : Option Addr) (la ca lp cp lb cb lq cq : Nat) (N : Int) : ∃ W, InR w W na nb ao po bo qo la ca lp cp lb cb lq cq N :=
  ⟨_, rfl, (Below.refl _ _).alloc (Nat.le_refl _) _, by simp, ⟨by simp [go_sem], by simp [go_sem], by simp [go_sem], by simp [go_sem], by simp [go_sem], by simp [go_sem], by simp [go_sem]⟩⟩
/-- a rational in a variable of its own -/
structure RVar (W : World) (r : Nat) (n : Bool) (o : Option Addr) (l c : Nat) (p : Option Addr) (m d : Nat) (a : Rat) : Prop where
  box : Boxed3 W r n o l c p m d
  rat : RatAt W n o l c p m d a
  lt : r < W.heap.size
theorem RVar.later {W w' : World} {r : Nat} {n : Bool} {o p : Option Addr} {l c m d : Nat} {a : Rat} (h : RVar W r n o l c p m d a) (hb : Below W.heap.size W w') : RVar w' r n o l c p m d a :=
  ⟨h.box.later hb h.lt, h.rat.later hb, Nat.lt_of_lt_of_le h.lt hb.size⟩
theorem RVar.new {W y : World} {n : Bool} {o p : Option Addr} {l c m d : Nat} {a : Rat} (hb : Below W.heap.size W y) (h : RatAt y n o l c p m d a) :
    Hid (RVar (y.alloc (.cells #[.bool n, .slice o l c, .slice p m d] 28)) y.heap.size n o l c p m d a ∧ Below W.heap.size W (y.alloc (.cells #[.bool n, .slice o l c, .slice p m d] 28)) ∧ Below y.heap.size y (y.alloc (.cells #[.bool n, .slice o l c, .slice p m d] 28))) := by
  have h1 : Below y.heap.size y (y.alloc (.cells #[.bool n, .slice o l c, .slice p m d] 28)) := (Below.refl _ _).alloc (Nat.le_refl _) _
  exact ⟨⟨⟨by simp [go_sem], by simp [go_sem], by simp [go_sem]⟩, h.later h1, by simp⟩, below_alloc hb (Nat.le_refl _), h1⟩
theorem num2_any (n : Int) (w : World) : Calls Tryz.prog 9 #[.int .i64 n] w fun e w' => e = .returned (.int .i64 n) ∧ w' = w := by
  go_enter Tryz.func9, Tryz.ntmps9
  go_wp2
  go_ret
  exact ⟨rfl, rfl⟩
def half1 : Rat := ⟨1, 2, by decide, by decide⟩
def third1 : Rat := ⟨-1, 3, by decide, by decide⟩
def sixth1 : Rat := ⟨1, 6, by decide, by decide⟩
theorem half_third : half1 + third1 = sixth1 := by
  obtain ⟨h1, h2⟩ := radd_parts half1 third1 1 (by decide)
  exact Rat.ext (h1.trans (by decide)) (h2.trans (by decide))
theorem sz_half : Sz half1 1 ∧ Sz third1 1 ∧ Sz sixth1 1 := by unfold Sz; decide
set_option maxRecDepth 100000 in
set_option maxHeartbeats 2000000 in
theorem wakes2_any (w : World) (hT0 : TabAt 0 Lib.deBruijn64tab w) (hP0 : Pow10 w) : Calls Tryz.prog 32 #[] w fun e w' => e = .returned (.bool true) ∧ Below w.heap.size w w' := by
  have HT : Hid (TabAt 0 Lib.deBruijn64tab w ∧ Pow10 w) := ⟨hT0, hP0⟩
  have hc1 : ∀ X, Below w.heap.size w X → Calls Tryz.prog 78 #[.string ⟨#[49, 47, 50]⟩] X fun e w' => SomeRat X w' e (.int .i64 0) half1 := fun X h => parse_text (sz_half.1.mono (by decide)) _ X (by kernel_rfl) (tab_later HT.out.1 h)
  have hc2 : ∀ X, Below w.heap.size w X → Calls Tryz.prog 78 #[.string ⟨#[45, 49, 47, 51]⟩] X fun e w' => SomeRat X w' e (.int .i64 0) third1 := fun X h => parse_text (sz_half.2.1.mono (by decide)) _ X (by kernel_rfl) (tab_later HT.out.1 h)
  have hc3 : ∀ (na : Bool) (ao po : Option Addr) (la ca lp cp : Nat) (X : World), RatAt X na ao la ca po lp cp sixth1 → Below w.heap.size w X → Calls Tryz.prog 18 #[.agg #[.bool na, .slice ao la ca, .slice po lp cp]] X fun e w' => e = .returned (.string ⟨#[49, 47, 54]⟩) ∧ Below X.heap.size X w' := fun na ao po la ca lp cp X h hb => by
    have h1 := h.len sz_half.2.2
    have := ratText_any na ao po la ca lp cp sixth1 X h (by omega) (by omega) (tab_later HT.out.1 hb) (HT.out.2.later hb)
    rw [show strOfNums (rnums sixth1) = ⟨#[49, 47, 54]⟩ by kernel_rfl] at this
    exact this
  clear hT0 hP0
  go_enter Tryz.func32, Tryz.ntmps32
  go_wp2_with (first
    | (go_at_call 78; have _t := HA1; refine (hc2 _ HA1.out.2.1).mono ?_; rintro e y2 ⟨n2, o2, l2, c2, p2, m2, d2, rfl, hr2, hb2⟩; have HB2 : Hid (RVar y2 y1.heap.size n1 o1 l1 c1 p1 m1 d1 half1 ∧ RatAt y2 n2 o2 l2 c2 p2 m2 d2 third1 ∧ Below w.heap.size w y2) := ⟨HA1.out.1.later hb2, hr2, bnext HA1.out.2.1 hb2⟩; clear hr2 hb2; have HA2 := RVar.new HB2.out.2.2 HB2.out.2.1; obtain ⟨q0, q1, q2⟩ := HB2.out.1.box; have hlt2 := HB2.out.1.lt)
    | (go_at_call 78; refine (hc1 _ (Below.refl _ _)).mono ?_; rintro e y1 ⟨n1, o1, l1, c1, p1, m1, d1, rfl, hr1, hb1⟩; have HA1 := RVar.new hb1 hr1; clear hr1 hb1)
    | (go_at_call 79; refine (add_rat n1 n2 o1 p1 o2 p2 l1 c1 m1 d1 l2 c2 m2 d2 half1 third1 _ ((HB2.out.1.later HA2.out.2.2).rat) HA2.out.1.rat (sz_half.1.mono (by decide)) (sz_half.2.1.mono (by decide)) (tab_later HT.out.1 HA2.out.2.1)).mono ?_; rw [half_third]; rintro e y3 ⟨n3, o3, l3, c3, p3, m3, d3, rfl, hs3, ho3, hp3, _, hb3⟩; have HB3 : Hid (RatAt y3 n3 o3 l3 c3 p3 m3 d3 sixth1 ∧ Below w.heap.size w y3) := ⟨⟨ho3.int hs3, hp3.row⟩, bnext HA2.out.2.1 hb3⟩; clear hs3 ho3 hp3 hb3; have HA3 := RVar.new HB3.out.2 HB3.out.1)
    | (go_at_call 9; refine (num2_any 0 _).mono ?_; rintro e xn ⟨rfl, hxn⟩; replace hxn := hxn.symm; subst hxn)
    | (go_at_call 18; refine (hc3 n3 o3 p3 l3 c3 m3 d3 _ HA3.out.1.rat HA3.out.2.1).mono ?_; rintro e y4 ⟨rfl, hb4⟩; have HB4 : Hid (Below w.heap.size w y4) := bnext HA3.out.2.1 hb4; clear hb4))
  go_ret
  exact ⟨rfl, HB4.out⟩
end Go.Proofs.YtiiefpnkpfliiaaGreatDoor
/-
  Walks: a quotient by 0; the page's quotient; copies; answers that are written over. (gen/rmore.py)
-/
namespace Go.Proofs.YtiiefpnkpfliiaaGreatDoor
open Go.RowKit
set_option linter.unusedVariables false
set_option linter.unusedSimpArgs false
set_option maxRecDepth 100000 in
set_option maxHeartbeats 4000000 in
theorem two2_any (na nb : Bool) (ao po bo qo : Option Addr) (la ca lp cp lb cb lq cq : Nat) (N : Int) (x d y f : List Int) (w : World) (hx : RowAt w .u64 ao la ca x) (wx : Wd 18446744073709551616 x) (hd : RowAt w .u64 po lp cp d) (wd : Wd 18446744073709551616 d) (hy : RowAt w .u64 bo lb cb y) (wy : Wd 18446744073709551616 y) (hf : RowAt w .u64 qo lq cq f) (wf : Wd 18446744073709551616 f) (hla : la ≤ 16777216) (hlp : lp ≤ 16777216) (hlb : lb ≤ 16777216) (hlq : lq ≤ 16777216) (c : Int) (hc : (if mayR na x d && mayR nb y f then 0 else 20 : Int) = c) :
    Calls Tryz.prog 27 #[.agg #[.bool na, .slice ao la ca, .slice po lp cp, .bool nb, .slice bo lb cb, .slice qo lq cq, .int .i64 N]] w fun e w' => e = .returned (.int .i64 c) ∧ Below w.heap.size w w' := by
  obtain ⟨W, hT⟩ := InR.mk' w na nb ao po bo qo la ca lp cp lb cb lq cq N
  have hsz := hT.size
  have RX : Hid (RowAt W .u64 ao la ca x ∧ RowAt W .u64 po lp cp d) := ⟨hx.later hT.below, hd.later hT.below⟩
  have RY : Hid (RowAt W .u64 bo lb cb y ∧ RowAt W .u64 qo lq cq f) := ⟨hy.later hT.below, hf.later hT.below⟩
  clear hx hd hy hf
  cases h1 : mayR na x d
  · obtain rfl : c = 20 := by rw [← hc, h1]; rfl
    have H1 : Hid (mayR na x d = false) := h1
    clear h1 hc
    go_enter Tryz.func27, Tryz.ntmps27
    go_wp2_with (go_at_call 7; rw [← hT.eq]; refine (qmay_any na ao po la ca lp cp x d _ RX.out.1 wx RX.out.2 wd hla hlp false H1.out).mono ?_; rintro e w1 ⟨rfl, hb1⟩; obtain ⟨q0, q1, q2, q3, q4, q5, q6⟩ := hT.p.later hb1 (by omega))
    go_ret
    exact ⟨rfl, bnext hT.below hb1⟩
  · have H1 : Hid (mayR na x d = true) := h1
    cases h2 : mayR nb y f
    · obtain rfl : c = 20 := by rw [← hc, h1, h2]; rfl
      have H2 : Hid (mayR nb y f = false) := h2
      clear h1 h2 hc
      go_enter Tryz.func27, Tryz.ntmps27
      go_wp2_with (first
        | (go_at_call 7; have _t := hb1; refine (qmay_any nb bo qo lb cb lq cq y f _ (RY.out.1.later hb1) wy (RY.out.2.later hb1) wf hlb hlq false H2.out).mono ?_; rintro e w2 ⟨rfl, hb2⟩)
        | (go_at_call 7; rw [← hT.eq]; refine (qmay_any na ao po la ca lp cp x d _ RX.out.1 wx RX.out.2 wd hla hlp true H1.out).mono ?_; rintro e w1 ⟨rfl, hb1⟩; obtain ⟨q0, q1, q2, q3, q4, q5, q6⟩ := hT.p.later hb1 (by omega)))
      go_ret
      exact ⟨rfl, bnext hT.below (bnext hb1 hb2)⟩
    · obtain rfl : c = 0 := by rw [← hc, h1, h2]; rfl
      have H2 : Hid (mayR nb y f = true) := h2
      clear h1 h2 hc
      go_enter Tryz.func27, Tryz.ntmps27
      go_wp2_with (first
        | (go_at_call 7; have _t := hb1; refine (qmay_any nb bo qo lb cb lq cq y f _ (RY.out.1.later hb1) wy (RY.out.2.later hb1) wf hlb hlq true H2.out).mono ?_; rintro e w2 ⟨rfl, hb2⟩)
        | (go_at_call 7; rw [← hT.eq]; refine (qmay_any na ao po la ca lp cp x d _ RX.out.1 wx RX.out.2 wd hla hlp true H1.out).mono ?_; rintro e w1 ⟨rfl, hb1⟩; obtain ⟨q0, q1, q2, q3, q4, q5, q6⟩ := hT.p.later hb1 (by omega)))
      go_ret
      exact ⟨rfl, bnext hT.below (bnext hb1 hb2)⟩
/-- of what was there all stays, but for the two slices' own blocks -/
def Stay2 (ao po : Option Addr) (w w' : World) : Prop := ∀ k, k < w.heap.size → (∀ p : Addr, ao = some p → p.block ≠ k) → (∀ p : Addr, po = some p → p.block ≠ k) → w'.heap[k]? = w.heap[k]?
theorem Stay2.of {ao po : Option Addr} {w w1 w2 : World} (h1 : Stay ao w w1) (h2 : Stay po w1 w2) : Stay2 ao po w w2 := fun k hk ha hp => (h2.block k (Nat.lt_of_lt_of_le hk h1.size) hp).trans (h1.block k hk ha)
end Go.Proofs.YtiiefpnkpfliiaaGreatDoor
