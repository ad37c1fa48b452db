/-
  Walks: the roots' bound.
-/
import Derived.Test.YtdanaebhjkbfmaaGreatPH05
import Derived.Test.YtdanaebhjkbfmaaGreatPH08
import Derived.Test.YtdanaebhjkbfmaaGreatPH14
import Derived.Test.YtdanaebhjkbfmaaGreatPH18
import Derived.Deep.QuietTactic
import Derived.BigQuiet
namespace Go.Proofs.YtdanaebhjkbfmaaGreat
open Go.RowKit
set_option linter.unusedVariables false
set_option linter.unusedSimpArgs false
/-- the greatest of the first k without their signs -/
def mxA (p : List Int) : Nat → Int
  | 0 => 0
  | k + 1 => if mxA p k < ((dig p k).natAbs : Int) then ((dig p k).natAbs : Int) else mxA p k
theorem mxA_bnd {p : List Int} {L : Nat} (h : Lim L p) (k : Nat) : 0 ≤ mxA p k ∧ lim (mxA p k) ≤ L := by
  induction k with
  | zero => exact ⟨Int.le_refl _, by show lim 0 ≤ L; rw [lim_zero]; omega⟩
  | succ k ih =>
    show 0 ≤ (ite _ _ _) ∧ lim (ite _ _ _) ≤ L
    split
    · exact ⟨by omega, by unfold lim; rw [Int.natAbs_natCast]; exact h k⟩
    · exact ih
theorem mxA_take (p : List Int) (n k : Nat) (h : k ≤ n) : mxA (p.take n) k = mxA p k := by
  induction k with
  | zero => rfl
  | succ k ih =>
    show (ite _ _ _) = (ite _ _ _)
    rw [ih (by omega), dig_take (by omega)]
/-- k is the least that reaches -/
def Least (L S : Int) (k : Nat) : Prop := S ≤ L * ((2 ^ k : Nat) : Int) ∧ ∀ j, j < k → L * ((2 ^ j : Nat) : Int) < S
theorem Least.one {L S : Int} {k l : Nat} (h : Least L S k) (g : Least L S l) : k = l := by
  rcases Nat.lt_trichotomy k l with q | q | q
  · have := g.2 k q; have := h.1; omega
  · exact q
  · have := h.2 l q; have := g.1; omega
theorem lim_abs (a : Int) : lim (a.natAbs : Int) = lim a := by unfold lim; rw [Int.natAbs_natCast]
theorem XVar.put {Z : World} {r : Nat} {v v' : Int} {n : Bool} {o : Option Addr} {l c : Nat} (h : XVar Z r v) (hi : IntAt Z n o l c v') : XVar ((Z.setCell ⟨r, 0, none⟩ (.bool n)).setCell ⟨r, 1, none⟩ (.slice o l c)) r v' := by
  obtain ⟨n0, o0, l0, c0, ⟨h0, h1⟩, _, hf⟩ := h
  have e1 : (Z.setCell ⟨r, 0, none⟩ (.bool n)).cell? ⟨r, 1, none⟩ = some (.slice o0 l0 c0) := by simp [go_sem, h0, h1]
  exact ⟨n, o, l, c, ⟨by simp [go_sem, h0, h1], by simp [go_sem, h0, h1]⟩, (hi.cellKept h0 (fun z e => by cases e) _).cellKept e1 (fun z e => by cases e) _, fun j => by rw [soft_far, soft_far]; exact hf j⟩
theorem xvar_new6 {Z : World} {v : Int} {n : Bool} {o : Option Addr} {l c : Nat} (hi : IntAt Z n o l c v) : XVar (Z.alloc (.cells #[.bool n, .slice o l c] 28)) Z.heap.size v :=
  ⟨n, o, l, c, ⟨by simp [go_sem], by simp [go_sem]⟩, hi.later ((Below.refl _ _).alloc (Nat.le_refl _) _), fun j => by simp [go_sem]⟩
theorem Fresh.xvar {Z : World} {r : Nat} (h : Fresh Z r) : XVar Z r 0 := ⟨false, none, 0, 0, ⟨h.2.1, h.2.2⟩, ⟨rfl, rfl, Nat.le_refl _, fun _ => rfl, Or.inl rfl⟩, h.1⟩
theorem Fresh.far {Z : World} {r s j : Nat} {v : Value} (h : Fresh Z r) (hne : s ≠ r) : Fresh (Z.setCell ⟨s, j, none⟩ v) r :=
  ⟨fun i => (soft_far).trans (h.1 i), by rw [setCell_ne (fun e => hne e.1.symm)]; exact h.2.1, by rw [setCell_ne (fun e => hne e.1.symm)]; exact h.2.2⟩
set_option maxRecDepth 100000 in
set_option maxHeartbeats 2000000 in
theorem greatest_any (ao : Option Addr) (len cap : Nat) (p : List Int) (w : World) (hp : PolyAt w ao len cap p) (hl : len ≤ 1000) (hlim : Lim 1000 p) :
    Calls Tryz.prog 72 #[.slice ao len cap] w fun e w' => RefInt w w' e (mxA p len) := by
  have HR : Hid (PolyAt w ao len cap p ∧ Lim 1000 p) := ⟨hp, hlim⟩
  clear hp hlim
  go_enter Tryz.func72, Tryz.ntmps72
  go_wp2
  go_loopw [10] (fun i wr => ∃ k : Nat, k ≤ len ∧ i = .int .i64 (k : Int) ∧ Below w.heap.size w wr ∧ Fresh wr w.heap.size ∧ XVar wr (w.heap.size + 1) (mxA p k)) (fun i _ => len - (intOf i).toNat)
  case atStart =>
    refine ⟨0, Nat.zero_le _, rfl, ?_, ?_, ?_⟩
    · exact below_alloc (below_alloc (Below.refl _ _) (Nat.le_refl _)) (Nat.le_refl _)
    · exact (Fresh.new w).alloc'
    · have := (Fresh.new (w.alloc (.cells #[.bool false, .slice none 0 0] 28))).xvar
      show XVar _ _ 0
      simpa using this
  case round =>
    obtain ⟨k, hk, rfl, hbel, hfr, hxv⟩ := hrel
    obtain ⟨nb, ob, lb, cb, hxb, hib, hfb⟩ := hxv
    have HB : Hid (IntAt wr nb ob lb cb (mxA p k) ∧ Boxed wr (w.heap.size + 1) nb ob lb cb ∧ Fresh wr w.heap.size ∧ (∀ j, wr.frozen? ⟨w.heap.size + 1, j, none⟩ = false) ∧ Below w.heap.size w wr) := ⟨hib, hxb, hfr, hfb, hbel⟩
    have hlb : lb ≤ 1000 := by rw [hib.lim]; exact (mxA_bnd HR.out.2 k).2
    have hgb : w.heap.size + 1 < wr.heap.size := cell_lt hxb.1
    by_cases hlt : k < len
    · obtain ⟨b, off, n1, ao1, l1, c1, rfl, f0, f1, hi1⟩ := (HR.out.1.later hbel).at hlt
      have hl1 : l1 ≤ 1000 := by rw [hi1.lim]; exact HR.out.2 k
      obtain ⟨W, hW⟩ : ∃ W, W = wr.alloc (.cells #[.bool n1, .slice ao1 l1 c1] 28) := ⟨_, rfl⟩
      have HW : Hid (Below wr.heap.size wr W ∧ Boxed W wr.heap.size n1 ao1 l1 c1 ∧ wr.heap.size < W.heap.size ∧ IntAt W n1 ao1 l1 c1 (dig p k)) := by
        have hA : Below wr.heap.size wr W := by rw [hW]; exact (Below.refl _ _).alloc (Nat.le_refl _) _
        exact ⟨hA, by rw [hW]; exact ⟨by simp [go_sem], by simp [go_sem]⟩, by rw [hW]; simp, hi1.later hA⟩
      have z1 : (0 : Int) ≤ (k : Int) := by omega
      have z2 : (k : Int) < (len : Int) := by omega
      obtain ⟨cs, hcs⟩ : ∃ cs, cmpI ((dig p k).natAbs : Int) (mxA p k) = cs := ⟨_, rfl⟩
      have HC : Hid (cmpI ((dig p k).natAbs : Int) (mxA p k) = cs) := hcs
      have hs3 := cmpI_three ((dig p k).natAbs : Int) (mxA p k)
      rw [hcs] at hs3
      obtain ⟨hxb0, hxb1⟩ := hxb
      clear hi1 hib hfr hfb hbel hcs hxb0 hxb1
      rcases hs3 with rfl | rfl | rfl
      all_goals
        go_wp2_with (first
          | (go_at_call 71; rw [← hW]; clear hW; refine (babs_any n1 ao1 l1 c1 (dig p k) _ HW.out.2.2.2 (by omega)).mono ?_; rintro e w2 ⟨n2, o2, l2, c2, rfl, hs2, ho2, hb2⟩; have H2 : Hid (IntAt w2 n2 o2 l2 c2 ((dig p k).natAbs : Int) ∧ Below wr.heap.size wr w2) := ⟨ho2.int hs2, bnext HW.out.1 hb2⟩; have hl2 : l2 ≤ 1000 := (by rw [(ho2.int hs2).lim, lim_abs]; exact HR.out.2 k); clear hs2 ho2 hb2; obtain ⟨W2, hW2⟩ : ∃ W2, W2 = w2.alloc (.cells #[.bool n2, .slice o2 l2 c2] 28) := ⟨_, rfl⟩; have HW2 : Hid (Below wr.heap.size wr W2 ∧ XVar W2 w2.heap.size ((dig p k).natAbs : Int) ∧ IntAt W2 n2 o2 l2 c2 ((dig p k).natAbs : Int) ∧ IntAt W2 nb ob lb cb (mxA p k)) := (by have hA : Below w2.heap.size w2 W2 := (by rw [hW2]; exact (Below.refl _ _).alloc (Nat.le_refl _) _); exact ⟨bnext H2.out.2 hA, (by rw [hW2]; exact xvar_new6 H2.out.1), H2.out.1.later hA, (HB.out.1.later H2.out.2).later hA⟩); obtain ⟨q0, q1⟩ := HB.out.2.1.later (bnext H2.out.2 (show Below w2.heap.size w2 W2 by rw [hW2]; exact (Below.refl _ _).alloc (Nat.le_refl _) _)) hgb; rw [hW2] at q0 q1)
          | (go_at_call 95; rw [← hW2]; refine (bcmp_any n2 nb o2 ob l2 c2 lb cb _ _ W2 HW2.out.2.2.1 HW2.out.2.2.2 (by omega) (by omega) _ HC.out).mono ?_; rintro e w3 ⟨rfl, hb3⟩; have HB3 : Hid (Below W2.heap.size W2 w3 ∧ Below wr.heap.size wr w3) := ⟨hb3, bnext HW2.out.1 hb3⟩; clear hb3 q0 q1; obtain ⟨q0, q1⟩ := HB.out.2.1.later HB3.out.2 hgb; have hfz : ∀ j, w3.frozen? ⟨w.heap.size + 1, j, none⟩ = false := (fun j => (HB3.out.2.frozen (p := ⟨w.heap.size + 1, j, none⟩) hgb).trans (HB.out.2.2.2.1 j)); have g3 : w2.heap.size < W2.heap.size := (by rw [hW2]; simp); obtain ⟨p0, p1⟩ : Boxed w3 w2.heap.size n2 o2 l2 c2 := (show Boxed W2 w2.heap.size n2 o2 l2 c2 by rw [hW2]; exact ⟨by simp [go_sem], by simp [go_sem]⟩).later HB3.out.1 g3; clear hW2))
        go_roundw
      all_goals first
        | (case measure => simp [intOf]; omega)
        | (case rel => exact ⟨k + 1, by omega, by go_num, bnext HB.out.2.2.2.2 HB3.out.2, HB.out.2.2.1.later HB3.out.2 (by omega), by
            rw [show mxA p (k + 1) = mxA p k by show (ite _ _ _) = _; rw [if_neg (by have := HC.out; unfold cmpI at this; split at this <;> (try split at this) <;> omega)]]
            exact XVar.later ⟨nb, ob, lb, cb, HB.out.2.1, HB.out.1, HB.out.2.2.2.1⟩ HB3.out.2⟩)
        | (case rel => exact ⟨k + 1, by omega, by go_num, below_set (below_set (bnext HB.out.2.2.2.2 HB3.out.2) (by omega)) (by omega), ((HB.out.2.2.1.later HB3.out.2 (by omega)).far (by omega)).far (by omega), by
            rw [show mxA p (k + 1) = ((dig p k).natAbs : Int) by show (ite _ _ _) = _; rw [if_pos (by have := HC.out; unfold cmpI at this; split at this <;> (try split at this) <;> omega)]]
            exact XVar.put (XVar.later ⟨nb, ob, lb, cb, HB.out.2.1, HB.out.1, HB.out.2.2.2.1⟩ HB3.out.2) (HW2.out.2.2.1.later HB3.out.1)⟩)
    · obtain rfl : k = len := by omega
      obtain ⟨g5, g3, g4⟩ := hfr
      obtain ⟨q0, q1⟩ := hxb
      have HI : Hid (IntAt ((wr.setCell ⟨w.heap.size, 0, none⟩ (.bool nb)).setCell ⟨w.heap.size, 1, none⟩ (.slice ob lb cb)) nb ob lb cb (mxA p k)) := int_kept hib ⟨g5, g3, g4⟩
      clear hib
      go_wp2
      exact bodyPost_ret (v := .agg #[.bool nb, .slice ob lb cb]) (by simp [results, Tryz.results72, go_sem, g3, g4]) rfl ⟨nb, ob, lb, cb, rfl, HI.out, below_set (below_set hbel (Nat.le_refl _)) (Nat.le_refl _)⟩
theorem reach_math (L S : Int) (k : Nat) : (-L ≤ -S / ((2 ^ k : Nat) : Int)) ↔ S ≤ L * ((2 ^ k : Nat) : Int) := by
  have h2 : (0 : Int) < ((2 ^ k : Nat) : Int) := by have : 0 < 2 ^ k := Nat.pow_pos (by decide); omega
  rw [Int.le_ediv_iff_mul_le h2, Int.neg_mul]
  omega
set_option maxRecDepth 100000 in
set_option maxHeartbeats 2000000 in
theorem reaches_any (na nb : Bool) (ao bo : Option Addr) (la ca lb cb k : Nat) (L S : Int) (w : World) (hx : IntAt w na ao la ca L) (hy : IntAt w nb bo lb cb S) (hla : la ≤ 1000) (hlb : lb ≤ 1000) (hk : k ≤ 100000) (c : Bool) (hc : decide (S ≤ L * ((2 ^ k : Nat) : Int)) = c) :
    Calls Tryz.prog 74 #[.agg #[.bool na, .slice ao la ca], .int .i64 (k : Int), .agg #[.bool nb, .slice bo lb cb]] w fun e w' => e = .returned (.bool c) ∧ Below w.heap.size w w' := by
  obtain ⟨W, hT⟩ := Two2.mk' w na nb ao bo la ca lb cb
  have hsz := hT.size
  have HX : Hid (IntAt W na ao la ca L ∧ IntAt W nb bo lb cb S ∧ Boxed W w.heap.size na ao la ca ∧ Boxed W (w.heap.size + 1) nb bo lb cb ∧ Below w.heap.size w W) := ⟨hx.later hT.below, hy.later hT.below, hT.a, hT.b, hT.below⟩
  obtain ⟨cs, hcs⟩ : ∃ cs, cmpI (-L) (-S / ((2 ^ k : Nat) : Int)) = cs := ⟨_, rfl⟩
  have HC : Hid (cmpI (-L) (-S / ((2 ^ k : Nat) : Int)) = cs) := hcs
  have hcl : cs ≤ 0 ↔ S ≤ L * ((2 ^ k : Nat) : Int) := by
    rw [← reach_math, ← hcs]
    unfold cmpI
    split <;> (try split) <;> omega
  have HD : Hid (lim (-S / ((2 ^ k : Nat) : Int)) ≤ 1002) := by
    show _ ≤ _
    have h1 : lb = lim S := hy.lim
    have h2 : (0 : Nat) < 2 ^ k := Nat.pow_pos (by decide)
    have h3 : (-S / ((2 ^ k : Nat) : Int)).natAbs ≤ S.natAbs + 1 := by
      have e1 := Int.natAbs_ediv_le_natAbs (-S) ((2 ^ k : Nat) : Int)
      rw [Int.natAbs_neg] at e1
      omega
    have h4 := mag_len_mono h3
    have h5 := mag_len_add S.natAbs 1
    have h6 : (mag 1).length ≤ 1 := mag_len_one (by decide)
    unfold lim at h1 ⊢
    omega
  clear hx hy hcs
  have hq : (decide (cs ≤ 0) = true ∧ c = true) ∨ (decide (cs ≤ 0) = false ∧ c = false) := by
    rw [← hc]
    by_cases h : S ≤ L * ((2 ^ k : Nat) : Int)
    · exact Or.inl ⟨decide_eq_true (hcl.2 h), decide_eq_true h⟩
    · exact Or.inr ⟨decide_eq_false (fun q => h (hcl.1 q)), decide_eq_false h⟩
  clear hc hcl
  obtain ⟨p0, p1⟩ := hT.b
  rcases hq with ⟨hq, rfl⟩ | ⟨hq, rfl⟩
  all_goals
    go_enter Tryz.func74, Tryz.ntmps74
    go_wp2_with (first
      | (go_at_call 68; rw [← hT.eq]; refine (bneg_any nb bo lb cb S _ HX.out.2.1 (by omega)).mono ?_; rintro e w1 ⟨n1, o1, l1, c1, rfl, hs1, ho1, hb1⟩; have H1 : Hid (IntAt w1 n1 o1 l1 c1 (-S) ∧ Below W.heap.size W w1) := ⟨ho1.int hs1, hb1⟩; have hl1 : l1 ≤ 1000 := (by rw [(ho1.int hs1).lim, lim_neg, ← HX.out.2.1.lim]; exact hlb); clear hs1 ho1 hb1)
      | (go_at_call 97; refine (bright_any n1 o1 l1 c1 k (-S) _ H1.out.1 (by omega) (by omega)).mono ?_; rintro e w2 ⟨n2, o2, l2, c2, rfl, hs2, ho2, hb2⟩; have H2 : Hid (IntAt w2 n2 o2 l2 c2 (-S / ((2 ^ k : Nat) : Int)) ∧ Below W.heap.size W w2) := ⟨ho2.int hs2, bnext H1.out.2 hb2⟩; have hl2 : l2 ≤ 1002 := (by rw [(ho2.int hs2).lim]; exact HD.out); clear hs2 ho2 hb2))
    obtain ⟨V, hV⟩ : ∃ V, V = w2.alloc (.cells #[.bool n2, .slice o2 l2 c2] 28) := ⟨_, rfl⟩
    have HV : Hid (Below W.heap.size W V ∧ Boxed V w2.heap.size n2 o2 l2 c2 ∧ w2.heap.size < V.heap.size ∧ IntAt V n2 o2 l2 c2 (-S / ((2 ^ k : Nat) : Int)) ∧ IntAt V na ao la ca L ∧ Boxed V w.heap.size na ao la ca) := by
      have hA : Below w2.heap.size w2 V := by rw [hV]; exact (Below.refl _ _).alloc (Nat.le_refl _) _
      have hB := bnext H2.out.2 hA
      exact ⟨hB, by rw [hV]; exact ⟨by simp [go_sem], by simp [go_sem]⟩, by rw [hV]; simp, H2.out.1.later hA, HX.out.1.later hB, HX.out.2.2.1.later hB (by omega)⟩
    rw [← hV]
    clear hV
    have KS : Hid (∀ w', Below V.heap.size V w' → Below V.heap.size V w' ∧ (w'.cell? ⟨w.heap.size, 0, none⟩ = some (.bool na) ∧ w'.cell? ⟨w.heap.size, 1, none⟩ = some (.slice ao la ca)) ∧ (w'.cell? ⟨w2.heap.size, 0, none⟩ = some (.bool n2) ∧ w'.cell? ⟨w2.heap.size, 1, none⟩ = some (.slice o2 l2 c2))) := fun w' hb => ⟨hb, HV.out.2.2.2.2.2.later hb (cell_lt HV.out.2.2.2.2.2.1), HV.out.2.1.later hb HV.out.2.2.1⟩
    go_region_held3 (fun w' => Below V.heap.size V w' ∧ (w'.cell? ⟨w.heap.size, 0, none⟩ = some (.bool na) ∧ w'.cell? ⟨w.heap.size, 1, none⟩ = some (.slice ao la ca)) ∧ (w'.cell? ⟨w2.heap.size, 0, none⟩ = some (.bool n2) ∧ w'.cell? ⟨w2.heap.size, 1, none⟩ = some (.slice o2 l2 c2)))
      (first | exact KS.out _ (Below.refl _ _).drew | exact KS.out _ (by assumption))
      (first
        | (go_at_call 68; refine (bneg_any na ao la ca L _ (HV.out.2.2.2.2.1.later (Below.refl _ _).drew) (by omega)).mono ?_; rintro e w3 ⟨n3, o3, l3, c3, rfl, hs3, ho3, hb3'⟩; have hb3 : Below V.heap.size V w3 := bnext (Below.refl _ _).drew hb3'; have H3 : Hid (IntAt w3 n3 o3 l3 c3 (-L)) := ho3.int hs3; have hl3 : l3 ≤ 1000 := (by rw [(ho3.int hs3).lim, lim_neg, ← HX.out.1.lim]; exact hla); clear hs3 ho3 hb3')
        | (go_at_call 95; refine (bcmp_any n3 n2 o3 o2 l3 c3 l2 c2 (-L) _ _ H3.out (HV.out.2.2.2.1.later hb3) (by omega) (by omega) cs HC.out).mono ?_; rintro e w4 ⟨rfl, hb4'⟩; have hb4 : Below V.heap.size V w4 := bnext hb3 hb4'; clear hb4'))
    go_wp2
    go_ret
    exact ⟨rfl, bnext HX.out.2.2.2.2 (bnext HV.out.1 hb4)⟩
theorem least_math {L S l s k : Nat} (hl : 1 ≤ l) (hs : 1 ≤ s) (hL1 : 2 ^ (l - 1) ≤ L) (hL2 : L < 2 ^ l) (hS1 : 2 ^ (s - 1) ≤ S) (hS2 : S < 2 ^ s) (hk : s = l + k) : ∀ (c : Bool), decide ((S : Int) ≤ (L : Int) * ((2 ^ k : Nat) : Int)) = c → Least (L : Int) (S : Int) (if c then k else k + 1) := by
  have low : ∀ j, j < k → (L : Int) * ((2 ^ j : Nat) : Int) < (S : Int) := fun j hj => by
    have h1 : L * 2 ^ j < 2 ^ l * 2 ^ j := Nat.mul_lt_mul_of_pos_right hL2 (Nat.pow_pos (by decide))
    have h2 : 2 ^ l * 2 ^ j ≤ 2 ^ (s - 1) := by rw [← Nat.pow_add]; exact Nat.pow_le_pow_right (by decide) (by omega)
    have h3 : L * 2 ^ j < S := by omega
    rw [← Int.natCast_mul]; exact Int.ofNat_lt.2 h3
  intro c hc
  cases c
  · have hn : ¬ ((S : Int) ≤ (L : Int) * ((2 ^ k : Nat) : Int)) := of_decide_eq_false hc
    refine ⟨?_, fun j hj => ?_⟩
    · have h1 : 2 ^ (l - 1) * 2 ^ (k + 1) ≤ L * 2 ^ (k + 1) := Nat.mul_le_mul_right _ hL1
      have h2 : 2 ^ s ≤ 2 ^ (l - 1) * 2 ^ (k + 1) := by rw [← Nat.pow_add]; exact Nat.pow_le_pow_right (by decide) (by omega)
      have h3 : S ≤ L * 2 ^ (k + 1) := by omega
      show (S : Int) ≤ (L : Int) * ((2 ^ (k + 1) : Nat) : Int)
      rw [← Int.natCast_mul]; exact Int.ofNat_le.2 h3
    · have hj' : j < k + 1 := hj
      by_cases e : j = k
      · subst e; omega
      · exact low j (by omega)
  · exact ⟨of_decide_eq_true hc, low⟩
set_option maxRecDepth 100000 in
set_option maxHeartbeats 2000000 in
theorem power_any (ao : Option Addr) (len cap : Nat) (p : List Int) (w : World) (hp : PolyAt w ao len cap p) (h0 : 0 < len) (hl : len ≤ 1000) (hlim : Lim 100 p) (hL : Lead p) :
    Calls Tryz.prog 48 #[.slice ao len cap] w fun e w' => (∃ k : Nat, e = .returned (.int .i64 (k : Int)) ∧ Least ((dig p (len - 1)).natAbs : Int) (((dig p (len - 1)).natAbs : Int) + mxA p (len - 1)) k) ∧ Below w.heap.size w w' := by
  obtain ⟨la, hla⟩ : ∃ la, la = len - 1 := ⟨_, rfl⟩
  rw [← hla]
  obtain ⟨b, off, n1, ao1, l1, c1, rfl, f0, f1, hi1⟩ := hp.at (show la < len by omega)
  obtain ⟨L, hLd⟩ : ∃ L : Nat, L = (dig p la).natAbs := ⟨_, rfl⟩
  have hLpos : 0 < L := by
    have := hL (by rw [← hp.hlen]; exact h0)
    rw [← hp.hlen, ← hla] at this
    omega
  have hmx := mxA_bnd hlim la
  obtain ⟨M, hM⟩ : ∃ M : Nat, M = (mxA p la).natAbs := ⟨_, rfl⟩
  have hMI : mxA p la = (M : Int) := by omega
  have hLlim : lim (L : Int) ≤ 100 := by rw [hLd, lim_abs]; exact hlim la
  have hMlim : lim (M : Int) ≤ 100 := by rw [← hMI]; exact hmx.2
  have HF : Hid (IntAt w n1 ao1 l1 c1 (dig p la) ∧ ((dig p la).natAbs : Int) = (L : Int) ∧ mxA p la = (M : Int) ∧ 0 < L ∧ lim (L : Int) ≤ 100 ∧ lim (M : Int) ≤ 100) := ⟨hi1, by rw [hLd], hMI, hLpos, hLlim, hMlim⟩
  have HP : Hid (PolyAt w (some ⟨b, off, none⟩) la cap (p.take la) ∧ Lim 1000 (p.take la) ∧ mxA (p.take la) la = (M : Int)) := ⟨hp.take (by omega), fun t => by
      by_cases h : t < la
      · rw [dig_take h]; exact Nat.le_trans (hlim t) (by decide)
      · rw [dig_past (by rw [List.length_take]; omega), lim_zero]; omega, by rw [mxA_take _ _ _ (Nat.le_refl _)]; exact hMI⟩
  have hl1 : l1 ≤ 100 := by rw [hi1.lim]; exact hlim la
  have hcl := hp.hcap
  have y1 : (len : Int) - 1 = (la : Int) := by omega
  have y2 : (0 : Int) ≤ (la : Int) := by omega
  have y3 : (la : Int) < (len : Int) := by omega
  have y4 : (la : Int) ≤ (cap : Int) := by omega
  have y5 : (0 : Int) ≤ (cap : Int) := by omega
  have y6 : cap ≠ 0 := by omega
  rw [HF.out.2.1, HF.out.2.2.1]
  clear hp hL hlim hi1 hla hLd hLpos hmx hM hMI hLlim hMlim
  go_enter Tryz.func48, Tryz.ntmps48
  go_wp2_with (go_at_call 71; refine (babs_any n1 ao1 l1 c1 (dig p la) _ HF.out.1 (by omega)).mono ?_; rintro e w1 ⟨n2, o2, l2, c2, rfl, hs2, ho2, hb1⟩; rw [HF.out.2.1] at hs2 ho2; have H1 : Hid (IntAt w1 n2 o2 l2 c2 (L : Int) ∧ Below w.heap.size w w1) := ⟨ho2.int hs2, hb1⟩; have hl2 : l2 ≤ 100 := (by rw [(ho2.int hs2).lim]; exact HF.out.2.2.2.2.1); clear hs2 ho2 hb1)
  obtain ⟨V, hV⟩ : ∃ V, V = w1.alloc (.cells #[.bool n2, .slice o2 l2 c2] 28) := ⟨_, rfl⟩
  have HV : Hid (Below w.heap.size w V ∧ Boxed V w1.heap.size n2 o2 l2 c2 ∧ w1.heap.size < V.heap.size ∧ IntAt V n2 o2 l2 c2 (L : Int)) := by
    have hA : Below w1.heap.size w1 V := by rw [hV]; exact (Below.refl _ _).alloc (Nat.le_refl _) _
    exact ⟨bnext H1.out.2 hA, by rw [hV]; exact ⟨by simp [go_sem], by simp [go_sem]⟩, by rw [hV]; simp, H1.out.1.later hA⟩
  rw [← hV]
  clear hV
  go_cut [5] (fun s5 wx => ∃ r5, s5 = .pointer (some ⟨r5, 0, none⟩) ∧ XVar wx r5 ((L : Int) + (M : Int)) ∧ Below V.heap.size V wx)
  case first => as_aux_lemma =>
    have KS : Hid (∀ w', Below V.heap.size V w' → Below V.heap.size V w' ∧ w'.cell? ⟨w1.heap.size, 0, none⟩ = some (.bool n2) ∧ w'.cell? ⟨w1.heap.size, 1, none⟩ = some (.slice o2 l2 c2)) := fun w' hb => ⟨hb, HV.out.2.1.later hb HV.out.2.2.1⟩
    have hA0 : Below V.heap.size V (V.drew.alloc (.cells #[.bool false, .slice none 0 0] 28)) := below_alloc (Below.refl _ _).drew (Nat.le_refl _)
    have hF0 : Fresh (V.drew.alloc (.cells #[.bool false, .slice none 0 0] 28)) V.heap.size := Fresh.new V.drew
    have hgr := fun W' (hb : Below V.heap.size V W') => greatest_any (some ⟨b, off, none⟩) la cap (p.take la) W' (HP.out.1.later (bnext HV.out.1 hb)) (by omega) HP.out.2.1
    rw [HP.out.2.2] at hgr
    go_region_held3 (fun w' => Below V.heap.size V w' ∧ w'.cell? ⟨w1.heap.size, 0, none⟩ = some (.bool n2) ∧ w'.cell? ⟨w1.heap.size, 1, none⟩ = some (.slice o2 l2 c2))
      (first
        | exact KS.out _ (Below.refl _ _).drew
        | exact KS.out _ hA0
        | assumption
        | exact KS.out _ (by assumption)
        | exact KS.out _ (below_alloc (by assumption) (Nat.le_refl _))
        | exact KS.out _ (below_store (by assumption) hB1.size _ _)
        | exact KS.out _ (below_store (by assumption) (Nat.le_refl _) _ _))
      (first
        | (go_at_call 72; refine (hgr (V.drew.alloc (.cells #[.bool false, .slice none 0 0] 28)) hA0).mono ?_; rintro e z1 ⟨m1, p1, j1, e1, rfl, hi1, hb1⟩; have HJ1 : Hid (IntAt z1 m1 p1 j1 e1 (M : Int)) := hi1; have hj1 : j1 ≤ 100 := (by rw [hi1.lim]; exact HF.out.2.2.2.2.2); have hB1 : Below V.heap.size V z1 := bnext hA0 hb1; have hF1 : Fresh z1 V.heap.size := hF0.next hb1; clear hi1 hb1)
        | (go_at_call 72; refine (hgr V.drew (Below.refl _ _).drew).mono ?_; rintro e z1 ⟨m1, p1, j1, e1, rfl, hi1, hb1⟩; have HJ1 : Hid (IntAt z1 m1 p1 j1 e1 (M : Int)) := hi1; have hj1 : j1 ≤ 100 := (by rw [hi1.lim]; exact HF.out.2.2.2.2.2); have hB1 : Below V.heap.size V z1 := bnext (Below.refl _ _).drew hb1; have hA1 : Below V.heap.size V (z1.alloc (.cells #[.bool false, .slice none 0 0] 28)) := below_alloc hB1 (Nat.le_refl _); have hG1 : Fresh (z1.alloc (.cells #[.bool false, .slice none 0 0] 28)) z1.heap.size := Fresh.new _; clear hi1 hb1)
        | (go_at_call 65; have _t := hF1; refine (bdplus_any n2 m1 o2 p1 l2 c2 j1 e1 (L : Int) (M : Int) z1 (HV.out.2.2.2.later hB1) HJ1.out (by omega) (by omega)).mono ?_; rintro e z2 ⟨m2, p2, j2, e2, rfl, hs2, ho2, hb2⟩; have HJ2 : Hid (IntAt z2 m2 p2 j2 e2 ((L : Int) + (M : Int))) := ho2.int hs2; have hB2 : Below V.heap.size V z2 := bnext hB1 hb2; have hF2 : Fresh z2 V.heap.size := hF1.next hb2; obtain ⟨k5, k3, k4⟩ := hF2; clear hs2 ho2 hb2)
        | (go_at_call 65; refine (bdplus_any n2 m1 o2 p1 l2 c2 j1 e1 (L : Int) (M : Int) (z1.alloc (.cells #[.bool false, .slice none 0 0] 28)) (HV.out.2.2.2.later hA1) (HJ1.out.later (below_alloc (Below.refl _ _) (Nat.le_refl _))) (by omega) (by omega)).mono ?_; rintro e z2 ⟨m2, p2, j2, e2, rfl, hs2, ho2, hb2⟩; have HJ2 : Hid (IntAt z2 m2 p2 j2 e2 ((L : Int) + (M : Int))) := ho2.int hs2; have hB2 : Below V.heap.size V z2 := bnext hA1 hb2; have hF2 : Fresh z2 z1.heap.size := hG1.next hb2; obtain ⟨k5, k3, k4⟩ := hF2; clear hs2 ho2 hb2)
        | (go_at_call 65; refine (bdplus_any n2 m1 o2 p1 l2 c2 j1 e1 (L : Int) (M : Int) z1 (HV.out.2.2.2.later hB1) HJ1.out (by omega) (by omega)).mono ?_; rintro e z2 ⟨m2, p2, j2, e2, rfl, hs2, ho2, hb2⟩; have HJ2 : Hid (IntAt z2 m2 p2 j2 e2 ((L : Int) + (M : Int))) := ho2.int hs2; have hB2 : Below V.heap.size V z2 := bnext hB1 hb2; clear hs2 ho2 hb2))
    all_goals go_wp2
    all_goals go_meet
    all_goals first
      | exact ⟨_, rfl, xvar_new6 HJ2.out, below_alloc hB2 (Nat.le_refl _)⟩
      | exact ⟨_, rfl, XVar.put (Fresh.xvar ⟨k5, k3, k4⟩) HJ2.out, below_store hB2 hB1.size _ _⟩
      | exact ⟨_, rfl, XVar.put (Fresh.xvar ⟨k5, k3, k4⟩) HJ2.out, below_store hB2 (Nat.le_refl _) _ _⟩
  case rest => as_aux_lemma =>
    obtain ⟨r5, rfl, hxv, hbY⟩ := hcut
    obtain ⟨Y, hY⟩ : ∃ Y, Y = wc := ⟨_, rfl⟩
    subst hY
    obtain ⟨n5, o5, l5, c5, hx5, hi5, hf5⟩ := hxv
    have hl5 : l5 ≤ 201 := by rw [hi5.lim]; have := lim_add (L : Int) (M : Int); have := HF.out.2.2.2.2; omega
    have HY : Hid (IntAt Y n5 o5 l5 c5 ((L : Int) + (M : Int)) ∧ Boxed Y r5 n5 o5 l5 c5 ∧ IntAt Y n2 o2 l2 c2 (L : Int) ∧ Boxed Y w1.heap.size n2 o2 l2 c2 ∧ r5 < Y.heap.size ∧ w1.heap.size < Y.heap.size ∧ Below w.heap.size w Y) := ⟨hi5, hx5, HV.out.2.2.2.later hbY, HV.out.2.1.later hbY HV.out.2.2.1, cell_lt hx5.1, Nat.lt_of_lt_of_le HV.out.2.2.1 hbY.size, bnext HV.out.1 hbY⟩
    have hb1 := row_bits (a := L) (la := l2) HF.out.2.2.2.1 (by have := HY.out.2.2.1.lim; unfold lim at this; rw [Int.natAbs_natCast] at this; exact this)
    have hb2 := row_bits (a := L + M) (la := l5) (by have := HF.out.2.2.2.1; omega) (by have := HY.out.1.lim; unfold lim at this; rw [← Int.natCast_add, Int.natAbs_natCast] at this; exact this)
    obtain ⟨bl, hbl, hbl1, hbl2, hbl3, hbl4⟩ := hb1
    obtain ⟨bs, hbs, hbs1, hbs2, hbs3, hbs4⟩ := hb2
    have hle : bl ≤ bs := by
      rcases Nat.lt_or_ge bs bl with q | q
      · exfalso
        have h1 : 2 ^ bs ≤ 2 ^ (bl - 1) := Nat.pow_le_pow_right (by decide) (by omega)
        omega
      · exact q
    obtain ⟨k, hk⟩ : ∃ k, bs = bl + k := ⟨bs - bl, by omega⟩
    have HM : Hid (∀ c : Bool, decide ((L : Int) + (M : Int) ≤ (L : Int) * ((2 ^ k : Nat) : Int)) = c → Least (L : Int) ((L : Int) + (M : Int)) (if c then k else k + 1)) := fun c hc => by
      have q := least_math hbl1 hbs1 hbl3 hbl4 hbs3 hbs4 hk c (by rw [Int.natCast_add]; exact hc)
      rw [Int.natCast_add] at q; exact q
    have HS : Hid (rowBits l5 (dig (mag (((L : Int) + (M : Int)).natAbs)) (l5 - 1)) = (bs : Int) ∧ rowBits l2 (dig (mag ((L : Int).natAbs)) (l2 - 1)) = (bl : Int)) := ⟨by rw [← Int.natCast_add, Int.natAbs_natCast]; exact hbs, by rw [Int.natAbs_natCast]; exact hbl⟩
    have hk2 : k ≤ 20000 := by omega
    have y7 : (bs : Int) - (bl : Int) = (k : Int) := by omega
    have y8 : IntKind.i64.wrap (k : Int) = (k : Int) := by rw [IntKind.wrap_i64]; omega
    have hlS := fun W' (h : IntAt W' n5 o5 l5 c5 ((L : Int) + (M : Int))) => blen_any n5 o5 l5 c5 ((L : Int) + (M : Int)) W' h (by omega)
    have hlL := fun W' (h : IntAt W' n2 o2 l2 c2 (L : Int)) => blen_any n2 o2 l2 c2 (L : Int) W' h (by omega)
    rw [HS.out.1] at hlS
    rw [HS.out.2] at hlL
    have hbs5 : bs ≤ 20000 := by omega
    have hbl5 : bl ≤ 20000 := by omega
    clear hx5 hi5 hf5 hbl hbs hbl1 hbl2 hbl3 hbl4 hbs1 hbs2 hbs3 hbs4 hk hle hbY
    have KS : Hid (∀ w', Below Y.heap.size Y w' → Below Y.heap.size Y w' ∧ (w'.cell? ⟨r5, 0, none⟩ = some (.bool n5) ∧ w'.cell? ⟨r5, 1, none⟩ = some (.slice o5 l5 c5)) ∧ (w'.cell? ⟨w1.heap.size, 0, none⟩ = some (.bool n2) ∧ w'.cell? ⟨w1.heap.size, 1, none⟩ = some (.slice o2 l2 c2))) := fun w' hb => ⟨hb, HY.out.2.1.later hb HY.out.2.2.2.2.1, HY.out.2.2.2.1.later hb HY.out.2.2.2.2.2.1⟩
    go_wp2
    go_region_held3 (fun w' => Below Y.heap.size Y w' ∧ (w'.cell? ⟨r5, 0, none⟩ = some (.bool n5) ∧ w'.cell? ⟨r5, 1, none⟩ = some (.slice o5 l5 c5)) ∧ (w'.cell? ⟨w1.heap.size, 0, none⟩ = some (.bool n2) ∧ w'.cell? ⟨w1.heap.size, 1, none⟩ = some (.slice o2 l2 c2)))
      (first | exact KS.out _ (Below.refl _ _).drew | exact KS.out _ (by assumption))
      (first
        | (go_at_call 73; have _t := hB3; refine (hlL _ (HY.out.2.2.1.later hB3)).mono ?_; rintro e z4 ⟨rfl, hb4⟩; have hB4 : Below Y.heap.size Y z4 := bnext hB3 hb4; clear hb4)
        | (go_at_call 73; refine (hlS _ (HY.out.1.later (Below.refl _ _).drew)).mono ?_; rintro e z3 ⟨rfl, hb3⟩; have hB3 : Below Y.heap.size Y z3 := bnext (Below.refl _ _).drew hb3; clear hb3))
    obtain ⟨q0, q1⟩ := HY.out.2.1.later hB4 HY.out.2.2.2.2.1
    obtain ⟨q2, q3⟩ := HY.out.2.2.2.1.later hB4 HY.out.2.2.2.2.2.1
    obtain ⟨c, hc⟩ : ∃ c, decide ((L : Int) + (M : Int) ≤ (L : Int) * ((2 ^ k : Nat) : Int)) = c := ⟨_, rfl⟩
    have hre := reaches_any n2 n5 o2 o5 l2 c2 l5 c5 k (L : Int) ((L : Int) + (M : Int)) z4 (HY.out.2.2.1.later hB4) (HY.out.1.later hB4) (by omega) (by omega) (by omega) c hc
    have HK : Hid (Least (L : Int) ((L : Int) + (M : Int)) (if c then k else k + 1)) := HM.out c hc
    have HBZ : Hid (Below w.heap.size w z4) := bnext HY.out.2.2.2.2.2.2 hB4
    clear hc hlS hlL
    cases c
    · go_wp2_with (go_at_call 74; refine hre.mono ?_; rintro e z5 ⟨rfl, hb5⟩)
      go_ret
      exact ⟨⟨k + 1, by go_num, HK.out⟩, bnext HBZ.out hb5⟩
    · go_wp2_with (go_at_call 74; refine hre.mono ?_; rintro e z5 ⟨rfl, hb5⟩)
      go_ret
      exact ⟨⟨k, rfl, HK.out⟩, bnext HBZ.out hb5⟩
end Go.Proofs.YtdanaebhjkbfmaaGreat
/-
  Walks: bound.Bound of whatever is handed in, the page's Bound.
-/
namespace Go.Proofs.YtdanaebhjkbfmaaGreat
open Go.RowKit
set_option linter.unusedVariables false
set_option linter.unusedSimpArgs false
/-- what Bound answers -/
def bad3 (m : Bool) (len : Nat) : Int := if m then (if len = 0 then 51 else 0) else 50
def BndAns (w w' : World) (e : Ending) (c : Int) (p : List Int) : Prop := (∃ k : Nat, e = .returned (.tuple #[.int .i64 (k : Int), .int .i64 c]) ∧ (c ≠ 0 → k = 0) ∧ (c = 0 → Least ((dig p (p.length - 1)).natAbs : Int) (((dig p (p.length - 1)).natAbs : Int) + mxA p (p.length - 1)) k)) ∧ Below w.heap.size w w'
set_option maxRecDepth 100000 in
set_option maxHeartbeats 2000000 in
theorem bbound_is (ao : Option Addr) (len cap : Nat) (rs : List (Bool × List Int)) (m : Bool) (p : List Int) (w : World) (hp : PArg w ao len cap rs m p) (c : Int) (hc : bad3 m len = c) :
    Calls Tryz.prog 18 #[.slice ao len cap] w fun e w' => BndAns w w' e c p := by
  cases m
  · have hck := checkNotZero_bad1 ao len cap rs p w hp
    obtain rfl : c = 50 := hc.symm
    clear hp hc
    go_enter Tryz.func18, Tryz.ntmps18
    go_wp2_with (first
      | (go_at_call 47; refine hck.mono ?_; rintro e w1 ⟨r, rfl, hr1, hb1⟩)
      | (go_at_call 39; refine (asked_any r 50 (by omega) _ hr1).mono ?_; rintro e w2 ⟨rfl, hb2⟩))
    exact bodyPost_ret (v := .tuple #[.int .i64 0, .int .i64 50]) (by simp [results, Tryz.results18, go_sem]) rfl ⟨⟨0, rfl, fun _ => rfl, fun h => absurd h (by decide)⟩, bnext hb1 hb2⟩
  · by_cases h0 : len = 0
    · subst h0
      have hck := checkNotZero_bad2 ao cap rs p w hp
      obtain rfl : c = 51 := hc.symm
      clear hp hc
      go_enter Tryz.func18, Tryz.ntmps18
      go_wp2_with (first
        | (go_at_call 47; refine hck.mono ?_; rintro e w1 ⟨r, rfl, hr1, hb1⟩)
        | (go_at_call 39; refine (asked_any r 51 (by omega) _ hr1).mono ?_; rintro e w2 ⟨rfl, hb2⟩))
      exact bodyPost_ret (v := .tuple #[.int .i64 0, .int .i64 51]) (by simp [results, Tryz.results18, go_sem]) rfl ⟨⟨0, rfl, fun _ => rfl, fun h => absurd h (by decide)⟩, bnext hb1 hb2⟩
    · have hck := checkNotZero_good ao len cap rs p w hp (by omega)
      have HV : Hid (PArg w ao len cap rs true p ∧ len = p.length) := ⟨hp, (hp.good rfl).1.hlen⟩
      have hl := hp.short
      obtain rfl : c = 0 := by rw [← hc]; unfold bad3; rw [if_pos rfl, if_neg h0]
      have HP : Hid (0 < len) := by show 0 < _; omega
      clear hp hc h0
      go_enter Tryz.func18, Tryz.ntmps18
      go_wp2_with (first
        | (go_at_call 47; refine hck.mono ?_; rintro e w1 ⟨rfl, hb1⟩)
        | (go_at_call 48; refine (power_any ao len cap p _ ((HV.out.1.later hb1).good rfl).1 HP.out (by omega) ((HV.out.1.good rfl).2.2.mono (by decide)) (HV.out.1.good rfl).2.1).mono ?_; rintro e w2 ⟨⟨k, rfl, hk⟩, hb2⟩; have HK : Hid (Least ((dig p (p.length - 1)).natAbs : Int) (((dig p (p.length - 1)).natAbs : Int) + mxA p (p.length - 1)) k) := (by rw [← HV.out.2]; exact hk); clear hk))
      exact bodyPost_ret (v := .tuple #[.int .i64 (k : Int), .int .i64 0]) (by simp [results, Tryz.results18, go_sem]) rfl ⟨⟨k, rfl, fun h => absurd rfl h, fun _ => HK.out⟩, bnext hb1 hb2⟩
set_option maxRecDepth 100000 in
set_option maxHeartbeats 2000000 in
theorem pbound_any (ao : Option Addr) (len cap : Nat) (p : List Int) (w : World) (hp : PolyAt w ao len cap p) (h0 : 0 < len) (hl : len ≤ 11) (hlim : Lim 3 p) (hL : Lead p) :
    Calls Tryz.prog 19 #[.slice ao len cap] w fun e w' => (∃ k : Nat, e = .returned (.int .i64 (k : Int)) ∧ Least ((dig p (len - 1)).natAbs : Int) (((dig p (len - 1)).natAbs : Int) + mxA p (len - 1)) k) ∧ Below w.heap.size w w' := by
  obtain ⟨la, hla⟩ : ∃ la, la = len - 1 := ⟨_, rfl⟩
  rw [← hla]
  obtain ⟨L, hLd⟩ : ∃ L : Nat, L = (dig p la).natAbs := ⟨_, rfl⟩
  have hLpos : 0 < L := by
    have := hL (by rw [← hp.hlen]; exact h0)
    rw [← hp.hlen, ← hla] at this
    omega
  have hmx := mxA_bnd hlim la
  obtain ⟨M, hM⟩ : ∃ M : Nat, M = (mxA p la).natAbs := ⟨_, rfl⟩
  have hMI : mxA p la = (M : Int) := by omega
  have hLlim : lim (L : Int) ≤ 3 := by rw [hLd, lim_abs]; exact hlim la
  have hMlim : lim (M : Int) ≤ 3 := by rw [← hMI]; exact hmx.2
  have hSb : L + M < 2 ^ 200 := by
    have q : ∀ n : Nat, lim (n : Int) ≤ 3 → n < 18446744073709551616 ^ 3 := fun n hn => by
      unfold lim at hn
      rw [Int.natAbs_natCast] at hn
      have q1 : n < 18446744073709551616 ^ (mag n).length := Int.ofNat_lt.1 (by rw [Int.natCast_pow]; exact mag_len_lt rfl)
      exact Nat.lt_of_lt_of_le q1 (Nat.pow_le_pow_right (by decide) hn)
    have q1 := q L hLlim
    have q2 := q M hMlim
    have q3 : 18446744073709551616 ^ 3 + 18446744073709551616 ^ 3 ≤ 2 ^ 200 := by decide
    omega
  have HF : Hid (PolyAt w ao len cap p ∧ ((dig p la).natAbs : Int) = (L : Int) ∧ mxA p la = (M : Int) ∧ 0 < L ∧ lim (L : Int) ≤ 3 ∧ lim (M : Int) ≤ 3 ∧ L + M < 2 ^ 200 ∧ Lim 3 p) := ⟨hp, by rw [hLd], hMI, hLpos, hLlim, hMlim, hSb, hlim⟩
  have HLN : Hid (len = la + 1) := by show _ = _; omega
  rw [HF.out.2.1, HF.out.2.2.1]
  have y1 : (la : Int) + 1 = (len : Int) := by omega
  clear hp hL hlim hla hLd hLpos hmx hM hMI hLlim hMlim h0 hSb
  go_enter Tryz.func19, Tryz.ntmps19
  go_wp2_with (go_at_call 49; refine (rfrom_any 0 _ (by decide) (by decide)).mono ?_; rintro e w1 ⟨n0, o0, l0, c0, rfl, hs0, ho0, hb0⟩; have H0 : Hid (IntAt w1 n0 o0 l0 c0 0 ∧ Below w.heap.size w w1) := ⟨ho0.int hs0, hb0⟩; clear hs0 ho0 hb0)
  obtain ⟨r3, hr3⟩ : ∃ r, r = w1.heap.size := ⟨_, rfl⟩
  rw [← hr3]
  have HR3 : Hid (r3 = w1.heap.size ∧ w.heap.size ≤ r3) := ⟨hr3, by rw [hr3]; exact H0.out.2.size⟩
  clear hr3
  go_loopw [4] (fun i wr => ∃ k : Nat, k ≤ la ∧ i = .int .i64 (k : Int) ∧ Below w.heap.size w wr ∧ XVar wr r3 (mxA p k)) (fun i _ => la - (intOf i).toNat)
  case atStart =>
    refine ⟨0, Nat.zero_le _, rfl, below_alloc H0.out.2 (Nat.le_refl _), ?_⟩
    rw [HR3.out.1]
    exact xvar_new6 H0.out.1
  case round =>
    obtain ⟨k, hk, rfl, hbel, hxv⟩ := hrel
    obtain ⟨nb, ob, lb, cb, hxb, hib, hfb⟩ := hxv
    have HB : Hid (IntAt wr nb ob lb cb (mxA p k) ∧ Boxed wr r3 nb ob lb cb ∧ (∀ j, wr.frozen? ⟨r3, j, none⟩ = false) ∧ Below w.heap.size w wr) := ⟨hib, hxb, hfb, hbel⟩
    have hlb : lb ≤ 3 := by rw [hib.lim]; exact (mxA_bnd HF.out.2.2.2.2.2.2.2 k).2
    have hgb : r3 < wr.heap.size := cell_lt hxb.1
    by_cases hlt : k < la
    · obtain ⟨b, off, n1, ao1, l1, c1, rfl, f0, f1, hi1⟩ := (HF.out.1.later hbel).at (show k < len by omega)
      have hl1 : l1 ≤ 3 := by rw [hi1.lim]; exact HF.out.2.2.2.2.2.2.2 k
      have HI : Hid (IntAt wr n1 ao1 l1 c1 (dig p k)) := hi1
      have z1 : (0 : Int) ≤ (k : Int) := by omega
      have z2 : (k : Int) < (len : Int) := by omega
      have z3 : (k : Int) + 1 < (len : Int) := by omega
      obtain ⟨cs, hcs⟩ : ∃ cs, cmpI ((dig p k).natAbs : Int) (mxA p k) = cs := ⟨_, rfl⟩
      have HC : Hid (cmpI ((dig p k).natAbs : Int) (mxA p k) = cs) := hcs
      have hs3 := cmpI_three ((dig p k).natAbs : Int) (mxA p k)
      rw [hcs] at hs3
      obtain ⟨hxb0, hxb1⟩ := hxb
      clear hi1 hib hfb hbel hcs hxb0 hxb1
      rcases hs3 with rfl | rfl | rfl
      all_goals
        go_wp2_with (first
          | (go_at_call 50; refine (rabs_any n1 ao1 l1 c1 (dig p k) _ HI.out (by omega)).mono ?_; rintro e w2 ⟨n2, o2, l2, c2, rfl, hi2, hb2⟩; have H2 : Hid (IntAt w2 n2 o2 l2 c2 ((dig p k).natAbs : Int) ∧ Below wr.heap.size wr w2) := ⟨hi2, hb2⟩; have hl2 : l2 ≤ 3 := (by rw [hi2.lim, lim_abs]; exact HF.out.2.2.2.2.2.2.2 k); clear hi2 hb2; obtain ⟨W2, hW2⟩ : ∃ W2, W2 = w2.alloc (.cells #[.bool n2, .slice o2 l2 c2] 28) := ⟨_, rfl⟩; have HW2 : Hid (Below wr.heap.size wr W2 ∧ IntAt W2 n2 o2 l2 c2 ((dig p k).natAbs : Int) ∧ IntAt W2 nb ob lb cb (mxA p k)) := (by have hA : Below w2.heap.size w2 W2 := (by rw [hW2]; exact (Below.refl _ _).alloc (Nat.le_refl _) _); exact ⟨bnext H2.out.2 hA, H2.out.1.later hA, (HB.out.1.later H2.out.2).later hA⟩); obtain ⟨q0, q1⟩ := HB.out.2.1.later (bnext H2.out.2 (show Below w2.heap.size w2 W2 by rw [hW2]; exact (Below.refl _ _).alloc (Nat.le_refl _) _)) hgb; rw [hW2] at q0 q1)
          | (go_at_call 51; rw [← hW2]; refine (rcmp_any n2 nb o2 ob l2 c2 lb cb _ _ W2 HW2.out.2.1 HW2.out.2.2 (by omega) (by omega) _ HC.out).mono ?_; rintro e w3 ⟨rfl, hb3⟩; have HB3 : Hid (Below W2.heap.size W2 w3 ∧ Below wr.heap.size wr w3) := ⟨hb3, bnext HW2.out.1 hb3⟩; clear hb3 q0 q1; obtain ⟨q0, q1⟩ := HB.out.2.1.later HB3.out.2 hgb; have hfz : ∀ j, w3.frozen? ⟨r3, j, none⟩ = false := (fun j => (HB3.out.2.frozen (p := ⟨r3, j, none⟩) hgb).trans (HB.out.2.2.1 j)); have g3 : w2.heap.size < W2.heap.size := (by rw [hW2]; simp); obtain ⟨p0, p1⟩ : Boxed w3 w2.heap.size n2 o2 l2 c2 := (show Boxed W2 w2.heap.size n2 o2 l2 c2 by rw [hW2]; exact ⟨by simp [go_sem], by simp [go_sem]⟩).later HB3.out.1 g3; clear hW2))
        go_roundw
      all_goals first
        | (case measure => simp [intOf]; omega)
        | (case rel => exact ⟨k + 1, by omega, by go_num, bnext HB.out.2.2.2 HB3.out.2, by
            rw [show mxA p (k + 1) = mxA p k by show (ite _ _ _) = _; rw [if_neg (by have := HC.out; unfold cmpI at this; split at this <;> (try split at this) <;> omega)]]
            exact XVar.later ⟨nb, ob, lb, cb, HB.out.2.1, HB.out.1, HB.out.2.2.1⟩ HB3.out.2⟩)
        | (case rel => exact ⟨k + 1, by omega, by go_num, below_set (below_set (bnext HB.out.2.2.2 HB3.out.2) HR3.out.2) HR3.out.2, by
            rw [show mxA p (k + 1) = ((dig p k).natAbs : Int) by show (ite _ _ _) = _; rw [if_pos (by have := HC.out; unfold cmpI at this; split at this <;> (try split at this) <;> omega)]]
            exact XVar.put (XVar.later ⟨nb, ob, lb, cb, HB.out.2.1, HB.out.1, HB.out.2.2.1⟩ HB3.out.2) (HW2.out.2.1.later HB3.out.1)⟩)
    · obtain rfl : k = la := by omega
      have z3 : ¬ (k : Int) + 1 < (len : Int) := by omega
      have HPl : Hid (PolyAt wr ao len cap p) := HF.out.1.later hbel
      clear hib hfb hbel hxb
      go_wp2_with (first
        | (go_at_call 52; refine (plead_any ao len cap p _ HPl.out (by omega)).mono ?_; rintro e w4 ⟨n4, o4, l4, c4, rfl, hi4, hb4⟩; have H4 : Hid (IntAt w4 n4 o4 l4 c4 (dig p k) ∧ Below wr.heap.size wr w4) := ⟨by rw [HLN.out] at hi4; exact hi4, hb4⟩; have hl4 : l4 ≤ 3 := (by rw [H4.out.1.lim]; exact HF.out.2.2.2.2.2.2.2 k); clear hi4 hb4)
        | (go_at_call 50; refine (rabs_any n4 o4 l4 c4 (dig p k) _ H4.out.1 (by omega)).mono ?_; rintro e w5 ⟨n5, o5, l5, c5, rfl, hi5, hb5⟩; rw [HF.out.2.1] at hi5; have H5 : Hid (IntAt w5 n5 o5 l5 c5 (L : Int) ∧ Below wr.heap.size wr w5) := ⟨hi5, bnext H4.out.2 hb5⟩; have hl5 : l5 ≤ 3 := (by rw [hi5.lim]; exact HF.out.2.2.2.2.1); clear hi5 hb5))
      obtain ⟨V, hV⟩ : ∃ V, V = w5.alloc (.cells #[.bool n5, .slice o5 l5 c5] 28) := ⟨_, rfl⟩
      have HV : Hid (Below w.heap.size w V ∧ Boxed V w5.heap.size n5 o5 l5 c5 ∧ w5.heap.size < V.heap.size ∧ IntAt V n5 o5 l5 c5 (L : Int) ∧ Boxed V r3 nb ob lb cb ∧ r3 < V.heap.size ∧ IntAt V nb ob lb cb (M : Int)) := by
        have hA : Below w5.heap.size w5 V := by rw [hV]; exact (Below.refl _ _).alloc (Nat.le_refl _) _
        have hB := bnext H5.out.2 hA
        exact ⟨bnext HB.out.2.2.2 hB, by rw [hV]; exact ⟨by simp [go_sem], by simp [go_sem]⟩, by rw [hV]; simp, H5.out.1.later hA, HB.out.2.1.later hB hgb, Nat.lt_of_lt_of_le hgb hB.size, by rw [← HF.out.2.2.1]; exact HB.out.1.later hB⟩
      rw [← hV]
      clear hV
      go_loopw [7] (fun i wv => ∃ t : Nat, i = .int .i64 (t : Int) ∧ Below V.heap.size V wv ∧ (∀ j, j < t → (L : Int) * ((2 ^ j : Nat) : Int) < (L : Int) + (M : Int))) (fun i _ => 1000 - (intOf i).toNat)
      case atStart => exact ⟨0, rfl, Below.refl _ _, fun j hj => absurd hj (by omega)⟩
      case round =>
        obtain ⟨t, rfl, hbv, hst⟩ := hrel
        have HST : Hid (∀ j, j < t → (L : Int) * ((2 ^ j : Nat) : Int) < (L : Int) + (M : Int)) := hst
        have ht : t ≤ 200 := by
          rcases Nat.lt_or_ge 200 t with q | q
          · exfalso
            have q1 := hst 200 q
            rw [← Int.natCast_mul, ← Int.natCast_add] at q1
            have q2 := Int.ofNat_lt.1 q1
            have q3 : 1 * 2 ^ 200 ≤ L * 2 ^ 200 := Nat.mul_le_mul_right _ HF.out.2.2.2.1
            have q4 := HF.out.2.2.2.2.2.2.1
            omega
          · exact q
        obtain ⟨cs, hcs⟩ : ∃ cs, cmpI ((L : Int) * ((2 ^ t : Nat) : Int)) ((L : Int) + (M : Int)) = cs := ⟨_, rfl⟩
        have HC : Hid (cmpI ((L : Int) * ((2 ^ t : Nat) : Int)) ((L : Int) + (M : Int)) = cs) := hcs
        have hs3 := cmpI_three ((L : Int) * ((2 ^ t : Nat) : Int)) ((L : Int) + (M : Int))
        rw [hcs] at hs3
        have HLS : Hid (lim ((L : Int) * ((2 ^ t : Nat) : Int)) ≤ 1000 ∧ lim ((L : Int) + (M : Int)) ≤ 7) := by
          constructor
          · have q1 := lim_mul (L : Int) ((2 ^ t : Nat) : Int)
            have q2 := two_lim t (by omega)
            have q3 := HF.out.2.2.2.2.1
            omega
          · have q1 := lim_add (L : Int) (M : Int)
            have q3 := HF.out.2.2.2.2.1
            have q4 := HF.out.2.2.2.2.2.1
            omega
        have KS : Hid (∀ w', Below wr.heap.size wr w' → Below wr.heap.size wr w' ∧ (w'.cell? ⟨w5.heap.size, 0, none⟩ = some (.bool n5) ∧ w'.cell? ⟨w5.heap.size, 1, none⟩ = some (.slice o5 l5 c5)) ∧ (w'.cell? ⟨r3, 0, none⟩ = some (.bool nb) ∧ w'.cell? ⟨r3, 1, none⟩ = some (.slice ob lb cb))) := fun w' hb => ⟨hb, (HV.out.2.1.later hbv HV.out.2.2.1).later hb (Nat.lt_of_lt_of_le HV.out.2.2.1 hbv.size), (HV.out.2.2.2.2.1.later hbv HV.out.2.2.2.2.2.1).later hb (Nat.lt_of_lt_of_le HV.out.2.2.2.2.2.1 hbv.size)⟩
        have HNV : Hid (IntAt wr n5 o5 l5 c5 (L : Int) ∧ IntAt wr nb ob lb cb (M : Int)) := ⟨HV.out.2.2.2.1.later hbv, HV.out.2.2.2.2.2.2.later hbv⟩
        clear hst hcs
        rcases hs3 with rfl | rfl | rfl
        all_goals
          go_wp2
          go_region_held3 (fun w' => Below wr.heap.size wr w' ∧ (w'.cell? ⟨w5.heap.size, 0, none⟩ = some (.bool n5) ∧ w'.cell? ⟨w5.heap.size, 1, none⟩ = some (.slice o5 l5 c5)) ∧ (w'.cell? ⟨r3, 0, none⟩ = some (.bool nb) ∧ w'.cell? ⟨r3, 1, none⟩ = some (.slice ob lb cb)))
            (first | exact KS.out _ (Below.refl _ _).drew | exact KS.out _ (by assumption))
            (first
              | (go_at_call 37; refine (rleft_any n5 o5 l5 c5 t (L : Int) _ (HNV.out.1.later (Below.refl _ _).drew) (by omega) (by omega)).mono ?_; rintro e y2 ⟨m2, p2, j2, e2, rfl, hs2, ho2, hb2⟩; have HJ2 : Hid (IntAt y2 m2 p2 j2 e2 ((L : Int) * ((2 ^ t : Nat) : Int))) := ho2.int hs2; have hj2 : j2 ≤ 1000 := (by rw [(ho2.int hs2).lim]; exact HLS.out.1); have hB2 : Below wr.heap.size wr y2 := bnext (Below.refl _ _).drew hb2; clear hs2 ho2 hb2)
              | (go_at_call 53; refine (rplus_any n5 nb o5 ob l5 c5 lb cb (L : Int) (M : Int) _ (HNV.out.1.later hB2) (HNV.out.2.later hB2) (by omega) (by omega)).mono ?_; rintro e y3 ⟨m3, p3, j3, e3, rfl, hi3, hb3⟩; have HJ3 : Hid (IntAt y3 m3 p3 j3 e3 ((L : Int) + (M : Int)) ∧ IntAt y3 m2 p2 j2 e2 ((L : Int) * ((2 ^ t : Nat) : Int))) := ⟨hi3, HJ2.out.later hb3⟩; have hj3 : j3 ≤ 7 := (by rw [hi3.lim]; exact HLS.out.2); have hB3 : Below wr.heap.size wr y3 := bnext hB2 hb3; clear hi3 hb3)
              | (go_at_call 51; refine (rcmp_any m2 m3 p2 p3 j2 e2 j3 e3 _ _ _ HJ3.out.2 HJ3.out.1 (by omega) (by omega) _ HC.out).mono ?_; rintro e y4 ⟨rfl, hb4⟩; have hB4 : Below wr.heap.size wr y4 := bnext hB3 hb4; clear hb4))
          go_wp2
        · go_roundw
          case rel => exact ⟨t + 1, by go_num, bnext hbv hB4, fun j hj => by
            by_cases e : j = t
            · subst e; have := HC.out; unfold cmpI at this; split at this <;> (try split at this) <;> omega
            · exact HST.out j (by omega)⟩
          case measure => simp [intOf]; omega
        all_goals
          go_ret
          exact ⟨⟨t, rfl, ⟨by have := HC.out; unfold cmpI at this; split at this <;> (try split at this) <;> omega, HST.out⟩⟩, bnext HV.out.1 (bnext hbv hB4)⟩
end Go.Proofs.YtdanaebhjkbfmaaGreat
