/-
  Walks: signs, negatives, sizes, comparisons.
-/
import Derived.Test.YtnodcfeimiimbaaDoorWH
namespace Go.Proofs.YtnodcfeimiimbaaDoor
open Go.RowKit
set_option linter.unusedVariables false
set_option linter.unusedSimpArgs false

theorem mag_len_pos {n : Nat} : 0 < (mag n).length ↔ 0 < n := by
  rw [List.length_pos_iff]
  constructor
  · intro h; by_cases e : n = 0
    · subst e; exact absurd rfl h
    · omega
  · intro h e
    have := (limbs_eq_nil (q := 18446744073709551616) (by decide)).1 e
    omega
theorem IntAt.three {w : World} {neg : Bool} {ao : Option Addr} {len cap : Nat} {v : Int} (h : IntAt w neg ao len cap v) : (v < 0 ∧ neg = true ∧ 0 < len) ∨ (v = 0 ∧ neg = false ∧ len = 0) ∨ (0 < v ∧ neg = false ∧ 0 < len) := by
  have hl := h.row.hlen
  have hp := mag_len_pos (n := v.natAbs)
  rw [← hl] at hp
  have hs := h.sg
  unfold sgB at hs
  rcases Int.lt_trichotomy v 0 with h1 | h1 | h1
  · exact Or.inl ⟨h1, by rw [hs]; exact decide_eq_true h1, hp.2 (by omega)⟩
  · refine Or.inr (Or.inl ⟨h1, by rw [hs]; exact decide_eq_false (by omega), ?_⟩)
    by_cases e : 0 < len
    · have := hp.1 e; omega
    · omega
  · exact Or.inr (Or.inr ⟨h1, by rw [hs]; exact decide_eq_false (by omega), hp.2 (by omega)⟩)
theorem setCell_ne {w : World} {p q : Addr} {v : Value} (h : ¬ (p.block = q.block ∧ p.off = q.off)) : (w.setCell q v).cell? p = w.cell? p := by
  by_cases hb : p.block = q.block
  · have ho : p.off ≠ q.off := fun e => h ⟨hb, e⟩
    simp only [World.cell?, World.setCell, Array.getElem?_modify, if_pos hb.symm]
    cases hh : w.heap[p.block]? with
    | none => simp
    | some o =>
      cases o with
      | cells c t fr =>
        simp only [Option.map_some]
        by_cases hs : q.spot.isSome
        · simp [hs]
        · simp [hs, Array.getElem?_setIfInBounds, Ne.symm ho]
      | _ => simp
  · exact World.cell?_of_block (w := w) (Below.heap_setCell _ _ _ _ hb)
/-- a row is none of the cells of a result's variable -/
theorem RowAt.kept {w : World} {k : IntKind} {ao : Option Addr} {len cap : Nat} {zs : List Int} (h : RowAt w k ao len cap zs) {r : Nat} (hf : Fresh w r) (x y : Value) : RowAt ((w.setCell ⟨r, 0, none⟩ x).setCell ⟨r, 1, none⟩ y) k ao len cap zs := by
  refine ⟨h.hlen, h.hcap, h.hnil, ?_⟩
  rcases h.hat with h0 | ⟨b, off, h1, hlt, h2⟩
  · exact Or.inl h0
  · refine Or.inr ⟨b, off, h1, by simpa [World.setCell] using hlt, fun t ht => ?_⟩
    have hc := h2 t ht
    rw [setCell_ne, setCell_ne]
    · exact hc
    · rintro ⟨e1, e2⟩
      simp only at e1 e2
      rw [e1, e2, hf.2.1] at hc; cases hc
    · rintro ⟨e1, e2⟩
      simp only at e1 e2
      rw [e1, e2, hf.2.2] at hc; cases hc

/-- one number handed in, a result to come -/
structure One2 (w W : World) (na : Bool) (ao : Option Addr) (la ca : Nat) : Prop where
  eq : W = (w.alloc (.cells #[.bool na, .slice ao la ca] 30)).alloc (.cells #[.bool false, .slice none 0 0] 30)
  below : Below w.heap.size w W
  size : W.heap.size = w.heap.size + 2
  a : Boxed W w.heap.size na ao la ca
  r : Fresh W (w.heap.size + 1)
theorem One2.mk' (w : World) (na : Bool) (ao : Option Addr) (la ca : Nat) : ∃ W, One2 w W na ao la ca := by
  refine ⟨_, rfl, ((Below.refl _ _).alloc (Nat.le_refl _) _).alloc (by simp) _, by simp, ⟨by simp [go_sem], by simp [go_sem]⟩, ?_⟩
  have := Fresh.new (w.alloc (.cells #[.bool na, .slice ao la ca] 30))
  simpa using this
theorem sgn_neg {neg : Bool} {v : Int} (h : neg = sgB v) : -v = sgn (!neg) v.natAbs := by
  subst h; unfold sgn sgB
  by_cases h : v < 0
  · rw [decide_eq_true h]; simp; omega
  · rw [decide_eq_false h]; simp; omega

/-- one number handed in -/
structure One1 (w W : World) (na : Bool) (ao : Option Addr) (la ca : Nat) : Prop where
  eq : W = w.alloc (.cells #[.bool na, .slice ao la ca] 30)
  below : Below w.heap.size w W
  size : W.heap.size = w.heap.size + 1
  a : Boxed W w.heap.size na ao la ca
theorem One1.mk' (w : World) (na : Bool) (ao : Option Addr) (la ca : Nat) : ∃ W, One1 w W na ao la ca :=
  ⟨_, rfl, (Below.refl _ _).alloc (Nat.le_refl _) _, by simp, ⟨by simp [go_sem], by simp [go_sem]⟩⟩
/-- two numbers handed in -/
structure Two2 (w W : World) (na nb : Bool) (ao bo : Option Addr) (la ca lb cb : Nat) : Prop where
  eq : W = (w.alloc (.cells #[.bool na, .slice ao la ca] 30)).alloc (.cells #[.bool nb, .slice bo lb cb] 30)
  below : Below w.heap.size w W
  size : W.heap.size = w.heap.size + 2
  a : Boxed W w.heap.size na ao la ca
  b : Boxed W (w.heap.size + 1) nb bo lb cb
theorem Two2.mk' (w : World) (na nb : Bool) (ao bo : Option Addr) (la ca lb cb : Nat) : ∃ W, Two2 w W na nb ao bo la ca lb cb :=
  ⟨_, rfl, ((Below.refl _ _).alloc (Nat.le_refl _) _).alloc (by simp) _, by simp, ⟨by simp [go_sem], by simp [go_sem]⟩, ⟨by simp [go_sem], by simp [go_sem]⟩⟩
theorem IntAt.may {w : World} {neg : Bool} {ao : Option Addr} {len cap : Nat} {v : Int} (h : IntAt w neg ao len cap v) : (if mayB neg (mag v.natAbs) then 0 else 10 : Int) = 0 := by rw [h.sg, may_int]; rfl

end Go.Proofs.YtnodcfeimiimbaaDoor
