/-
  Variables that hold numbers: what a store leaves.
-/
import Derived.Test.YtiiefpnkpfliiaaGreatDoorHH
namespace Go.Proofs.YtiiefpnkpfliiaaGreatDoor
open Go.RowKit
set_option linter.unusedVariables false
set_option linter.unusedSimpArgs false

theorem cell_far {w : World} {r j b o : Nat} {v : Value} (h : b ≠ r) : (w.setCell ⟨r, j, none⟩ v).cell? ⟨b, o, none⟩ = w.cell? ⟨b, o, none⟩ := by
  simp only [World.cell?, Below.heap_setCell w ⟨r, j, none⟩ v b h]
/-- two numbers, in whatever memory -/
def TwoRef (w w' : World) (e : Ending) (q r : Int) : Prop :=
  ∃ n1 ao1 l1 c1 n2 ao2 l2 c2, e = .returned (.tuple #[.agg #[.bool n1, .slice ao1 l1 c1], .agg #[.bool n2, .slice ao2 l2 c2]]) ∧ IntAt w' n1 ao1 l1 c1 q ∧ IntAt w' n2 ao2 l2 c2 r ∧ Below w.heap.size w w'
theorem floor_rest {a b q r : Int} (h : FloorOf a b q r) : FloorOf a b q (a - q * b) := by
  have e : a - q * b = r := by have := h.1; rw [Int.mul_comm] at this; omega
  rw [e]; exact h
theorem floor_one {a b q r q' r' : Int} (h : FloorOf a b q r) (k : FloorOf a b q' r') : q = q' ∧ r = r' := by
  obtain ⟨h1, h2⟩ := h
  obtain ⟨k1, k2⟩ := k
  have e : b * (q - q') = r' - r := by rw [Int.mul_sub]; omega
  have hq : q = q' := by
    rcases Int.lt_trichotomy (q - q') 0 with h | h | h
    · exfalso
      rcases h2 with h2 | h2
      · have : b * (q - q') ≤ b * (-1) := Int.mul_le_mul_of_nonneg_left (by omega) (by omega)
        omega
      · have : b * (-1) ≤ b * (q - q') := Int.mul_le_mul_of_nonpos_left (by omega) (by omega)
        omega
    · omega
    · exfalso
      rcases h2 with h2 | h2
      · have : b * 1 ≤ b * (q - q') := Int.mul_le_mul_of_nonneg_left (by omega) (by omega)
        omega
      · have : b * (q - q') ≤ b * 1 := Int.mul_le_mul_of_nonpos_left (by omega) (by omega)
        omega
  subst hq
  exact ⟨rfl, by omega⟩
theorem RowAt.boxed {w : World} {k : IntKind} {ao : Option Addr} {len cap r : Nat} {zs : List Int} {n : Bool} {so : Option Addr} {l c : Nat} (h : RowAt w k ao len cap zs) (hf : Boxed w r n so l c) (x y : Value) : RowAt ((w.setCell ⟨r, 0, none⟩ x).setCell ⟨r, 1, none⟩ y) k ao len cap zs := by
  refine ⟨h.hlen, h.hcap, h.hnil, ?_⟩
  rcases h.hat with h0 | ⟨b, off, h1, hlt, h2⟩
  · exact Or.inl h0
  · refine Or.inr ⟨b, off, h1, by simpa [World.setCell] using hlt, fun t ht => ?_⟩
    have hc := h2 t ht
    rw [setCell_ne, setCell_ne]
    · exact hc
    · rintro ⟨e1, e2⟩
      simp only at e1 e2
      rw [e1, e2, hf.1] at hc; cases hc
    · rintro ⟨e1, e2⟩
      simp only at e1 e2
      rw [e1, e2, hf.2] at hc; cases hc
theorem boxed_far {w : World} {r s : Nat} {n : Bool} {so : Option Addr} {l c : Nat} (h : Boxed w r n so l c) (hs : r ≠ s) (x y : Value) : Boxed ((w.setCell ⟨s, 0, none⟩ x).setCell ⟨s, 1, none⟩ y) r n so l c :=
  ⟨by rw [cell_far hs, cell_far hs]; exact h.1, by rw [cell_far hs, cell_far hs]; exact h.2⟩
theorem frozen_far {w : World} {r j b o : Nat} {v : Value} : (w.setCell ⟨r, j, none⟩ v).frozen? ⟨b, o, none⟩ = w.frozen? ⟨b, o, none⟩ := by simp [go_sem]
theorem fresh_far {w : World} {r s : Nat} (h : Fresh w r) (hs : r ≠ s) (x y : Value) : Fresh ((w.setCell ⟨s, 0, none⟩ x).setCell ⟨s, 1, none⟩ y) r :=
  ⟨fun j => by rw [frozen_far, frozen_far]; exact h.1 j, by rw [cell_far hs, cell_far hs]; exact h.2.1, by rw [cell_far hs, cell_far hs]; exact h.2.2⟩
theorem boxed_new {w : World} {r : Nat} {n m : Bool} {so to : Option Addr} {l c l' c' : Nat} (h : Boxed w r n so l c) : Boxed ((w.setCell ⟨r, 0, none⟩ (.bool m)).setCell ⟨r, 1, none⟩ (.slice to l' c')) r m to l' c' :=
  ⟨by simp [go_sem, h.1, h.2], by simp [go_sem, h.1, h.2]⟩
end Go.Proofs.YtiiefpnkpfliiaaGreatDoor
