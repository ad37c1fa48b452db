/-
  Walks: the page's Divide.
-/
import Derived.Test.YtmjbmgjegiimfaaHH
namespace Go.Proofs.Ytmjbmgjegiimfaa
open Go.RowKit
set_option linter.unusedVariables false
set_option linter.unusedSimpArgs false

theorem cell_far {w : World} {r j b o : Nat} {v : Value} (h : b ≠ r) : (w.setCell ⟨r, j, none⟩ v).cell? ⟨b, o, none⟩ = w.cell? ⟨b, o, none⟩ := by
  simp only [World.cell?, Below.heap_setCell w ⟨r, j, none⟩ v b h]
/-- two numbers, in whatever memory -/
def TwoRef (w w' : World) (e : Ending) (q r : Int) : Prop :=
  ∃ n1 ao1 l1 c1 n2 ao2 l2 c2, e = .returned (.tuple #[.agg #[.bool n1, .slice ao1 l1 c1], .agg #[.bool n2, .slice ao2 l2 c2]]) ∧ IntAt w' n1 ao1 l1 c1 q ∧ IntAt w' n2 ao2 l2 c2 r ∧ Below w.heap.size w w'
theorem floor_rest {a b q r : Int} (h : FloorOf a b q r) : FloorOf a b q (a - q * b) := by
  have e : a - q * b = r := by have := h.1; rw [Int.mul_comm] at this; omega
  rw [e]; exact h
theorem floor_one {a b q r q' r' : Int} (h : FloorOf a b q r) (k : FloorOf a b q' r') : q = q' ∧ r = r' := by
  obtain ⟨h1, h2⟩ := h
  obtain ⟨k1, k2⟩ := k
  have e : b * (q - q') = r' - r := by rw [Int.mul_sub]; omega
  have hq : q = q' := by
    rcases Int.lt_trichotomy (q - q') 0 with h | h | h
    · exfalso
      rcases h2 with h2 | h2
      · have : b * (q - q') ≤ b * (-1) := Int.mul_le_mul_of_nonneg_left (by omega) (by omega)
        omega
      · have : b * (-1) ≤ b * (q - q') := Int.mul_le_mul_of_nonpos_left (by omega) (by omega)
        omega
    · omega
    · exfalso
      rcases h2 with h2 | h2
      · have : b * 1 ≤ b * (q - q') := Int.mul_le_mul_of_nonneg_left (by omega) (by omega)
        omega
      · have : b * (q - q') ≤ b * 1 := Int.mul_le_mul_of_nonpos_left (by omega) (by omega)
        omega
  subst hq
  exact ⟨rfl, by omega⟩
theorem RowAt.boxed {w : World} {k : IntKind} {ao : Option Addr} {len cap r : Nat} {zs : List Int} {n : Bool} {so : Option Addr} {l c : Nat} (h : RowAt w k ao len cap zs) (hf : Boxed w r n so l c) (x y : Value) : RowAt ((w.setCell ⟨r, 0, none⟩ x).setCell ⟨r, 1, none⟩ y) k ao len cap zs := by
  refine ⟨h.hlen, h.hcap, h.hnil, ?_⟩
  rcases h.hat with h0 | ⟨b, off, h1, hlt, h2⟩
  · exact Or.inl h0
  · refine Or.inr ⟨b, off, h1, by simpa [World.setCell] using hlt, fun t ht => ?_⟩
    have hc := h2 t ht
    rw [setCell_ne, setCell_ne]
    · exact hc
    · rintro ⟨e1, e2⟩
      simp only at e1 e2
      rw [e1, e2, hf.1] at hc; cases hc
    · rintro ⟨e1, e2⟩
      simp only at e1 e2
      rw [e1, e2, hf.2] at hc; cases hc
theorem boxed_far {w : World} {r s : Nat} {n : Bool} {so : Option Addr} {l c : Nat} (h : Boxed w r n so l c) (hs : r ≠ s) (x y : Value) : Boxed ((w.setCell ⟨s, 0, none⟩ x).setCell ⟨s, 1, none⟩ y) r n so l c :=
  ⟨by rw [cell_far hs, cell_far hs]; exact h.1, by rw [cell_far hs, cell_far hs]; exact h.2⟩
theorem frozen_far {w : World} {r j b o : Nat} {v : Value} : (w.setCell ⟨r, j, none⟩ v).frozen? ⟨b, o, none⟩ = w.frozen? ⟨b, o, none⟩ := by simp [go_sem]
theorem fresh_far {w : World} {r s : Nat} (h : Fresh w r) (hs : r ≠ s) (x y : Value) : Fresh ((w.setCell ⟨s, 0, none⟩ x).setCell ⟨s, 1, none⟩ y) r :=
  ⟨fun j => by rw [frozen_far, frozen_far]; exact h.1 j, by rw [cell_far hs, cell_far hs]; exact h.2.1, by rw [cell_far hs, cell_far hs]; exact h.2.2⟩
theorem boxed_new {w : World} {r : Nat} {n m : Bool} {so to : Option Addr} {l c l' c' : Nat} (h : Boxed w r n so l c) : Boxed ((w.setCell ⟨r, 0, none⟩ (.bool m)).setCell ⟨r, 1, none⟩ (.slice to l' c')) r m to l' c' :=
  ⟨by simp [go_sem, h.1, h.2], by simp [go_sem, h.1, h.2]⟩
/-- what Divide has in its hands ahead of its answer -/
structure RDiv (w Z : World) (na nb nq : Bool) (ao bo qo : Option Addr) (la ca lb cb lq cq g : Nat) (a b q : Int) : Prop where
  ba : Boxed Z w.heap.size na ao la ca
  bb : Boxed Z (w.heap.size + 1) nb bo lb cb
  bq : Boxed Z g nq qo lq cq
  ia : IntAt Z na ao la ca a
  ib : IntAt Z nb bo lb cb b
  iq : IntAt Z nq qo lq cq q
  f1 : Fresh Z (w.heap.size + 1 + 1)
  f2 : Fresh Z (w.heap.size + 1 + 1 + 1)
  bz : Below w.heap.size w Z
  gz : g < Z.heap.size
  gw : w.heap.size + 4 ≤ g
  fq : ∀ j, Z.frozen? ⟨g, j, none⟩ = false
theorem RDiv.first {w W w2 Z : World} {na nb nq : Bool} {ao bo qo : Option Addr} {la ca lb cb lq cq : Nat} {a b : Int} {m : Nat} {neg : Bool} (hT : Two4 w W na nb ao bo la ca lb cb) (hb : Below W.heap.size W w2) (hx : IntAt W na ao la ca a) (hy : IntAt W nb bo lb cb b) (hm : RowAt w2 .u64 qo lq cq (mag m)) (hn : nq = (neg && decide (0 < lq))) (hZ : Z = w2.alloc (.cells #[.bool nq, .slice qo lq cq] 26)) :
    RDiv w Z na nb nq ao bo qo la ca lb cb lq cq w2.heap.size a b (sgn neg m) := by
  have hA : Below w2.heap.size w2 Z := by rw [hZ]; exact (Below.refl _ _).alloc (Nat.le_refl _) _
  have hWZ := bnext hb hA
  have hs := hT.size
  have h2 := hb.size
  refine ⟨hT.a.later hWZ (by omega), hT.b.later hWZ (by omega), ?_, hx.later hWZ, hy.later hWZ, ⟨?_, ?_⟩, hT.r.later hWZ (by omega), hT.r2.later hWZ (by omega), bnext hT.below hWZ, by rw [hZ]; simp, by omega, fun j => by rw [hZ]; simp [go_sem]⟩
  · rw [hZ]; exact ⟨by simp [go_sem], by simp [go_sem]⟩
  · rw [sgB_sgn, hn, hm.hlen]
  · rw [natAbs_sgn]; exact hm.later hA
theorem RDiv.next {w Z w4 : World} {na nb nq n4 : Bool} {ao bo qo ao4 : Option Addr} {la ca lb cb lq cq l4 c4 g : Nat} {a b q q' : Int} (h : RDiv w Z na nb nq ao bo qo la ca lb cb lq cq g a b q) (hb : Below Z.heap.size Z w4) (hi : IntAt w4 n4 ao4 l4 c4 q') :
    RDiv w ((w4.setCell ⟨g, 0, none⟩ (.bool n4)).setCell ⟨g, 1, none⟩ (.slice ao4 l4 c4)) na nb n4 ao bo ao4 la ca lb cb l4 c4 g a b q' := by
  have h1 := h.gw
  have h2 := h.gz
  have hq := h.bq.later hb (by omega)
  have hs := hb.size
  exact ⟨boxed_far (h.ba.later hb (by omega)) (by omega) _ _, boxed_far (h.bb.later hb (by omega)) (by omega) _ _, boxed_new hq, ⟨h.ia.sg, (h.ia.later hb).row.boxed hq _ _⟩, ⟨h.ib.sg, (h.ib.later hb).row.boxed hq _ _⟩, ⟨hi.sg, hi.row.boxed hq _ _⟩, fresh_far (h.f1.later hb (by omega)) (by omega) _ _, fresh_far (h.f2.later hb (by omega)) (by omega) _ _, below_store (bnext h.bz hb) (by omega) _ _, by simp; omega, h1, fun j => by rw [frozen_far, frozen_far, hb.frozen (p := ⟨g, j, none⟩) h2]; exact h.fq j⟩
theorem RDiv.last {w Z w6 : World} {na nb nq n6 : Bool} {ao bo qo ao6 : Option Addr} {la ca lb cb lq cq l6 c6 g : Nat} {a b q r : Int} (h : RDiv w Z na nb nq ao bo qo la ca lb cb lq cq g a b q) (hb : Below Z.heap.size Z w6) (hi : IntAt w6 n6 ao6 l6 c6 r) (v1 v2 v3 v4 : Value) :
    TwoRef w ((((w6.setCell ⟨w.heap.size + 1 + 1, 0, none⟩ v1).setCell ⟨w.heap.size + 1 + 1, 1, none⟩ v2).setCell ⟨w.heap.size + 1 + 1 + 1, 0, none⟩ v3).setCell ⟨w.heap.size + 1 + 1 + 1, 1, none⟩ v4) (.returned (.tuple #[.agg #[.bool nq, .slice qo lq cq], .agg #[.bool n6, .slice ao6 l6 c6]])) q r := by
  have h1 := h.gw
  have h2 := h.gz
  have f1 := h.f1.later hb (by omega)
  have f2 : ∀ x y, Fresh ((w6.setCell ⟨w.heap.size + 1 + 1, 0, none⟩ x).setCell ⟨w.heap.size + 1 + 1, 1, none⟩ y) (w.heap.size + 1 + 1 + 1) := fun x y => fresh_far (h.f2.later hb (by omega)) (by omega) _ _
  exact ⟨_, _, _, _, _, _, _, _, rfl, ⟨h.iq.sg, ((h.iq.later hb).row.kept f1 _ _).kept (f2 _ _) _ _⟩, ⟨hi.sg, (hi.row.kept f1 _ _).kept (f2 _ _) _ _⟩, below_store (below_store (bnext h.bz hb) (by omega) _ _) (by omega) _ _⟩
theorem sgn_less (m : Nat) : sgn true m - 1 = sgn true (m + 1) := by simp only [sgn, if_true]; omega
theorem mag_one_len : (mag 1).length ≤ 1 := mag_len_le (by decide)

end Go.Proofs.Ytmjbmgjegiimfaa
