/-
  BigMoves: what a round has in its hands.
-/
import Derived.Test.YtmjbmgjegiimfaaHN
import Derived.Test.YtmjbmgjegiimfaaLA0
namespace Go.Proofs.Ytmjbmgjegiimfaa
open Go.RowKit Go.Shelf
set_option linter.unusedVariables false
set_option linter.unusedSimpArgs false

theorem Own.lt_of {B : Nat} {w : World} {k : IntKind} {t : TypeId} {ao : Option Addr} {len cap : Nat} {zs : List Int} (h : Own B w k t ao len cap zs) : ∀ p : Addr, ao = some p → B ≤ p.block ∧ p.block < w.heap.size := by
  intro p hp
  rcases h with ⟨h1, _⟩ | ⟨g, off, cur, h1, h2, h3, _⟩
  · rw [h1] at hp; cases hp
  · rw [h1] at hp; cases hp
    exact ⟨h2, heap_lt h3⟩
/-- a variable that may be written -/
def Slot (Z : World) (r : Nat) : Prop := (∃ n o l c, Boxed Z r n o l c) ∧ (∀ j, Z.frozen? ⟨r, j, none⟩ = false)
theorem Boxed.lt {Z : World} {r : Nat} {n : Bool} {o : Option Addr} {l c : Nat} (h : Boxed Z r n o l c) : r < Z.heap.size := cell_lt h.1
theorem Slot.lt {Z : World} {r : Nat} (h : Slot Z r) : r < Z.heap.size := by
  obtain ⟨⟨n, o, l, c, hb⟩, _⟩ := h; exact hb.lt
theorem Slot.at {Z Z' : World} {r B : Nat} (h : Slot Z r) (hb : Below B Z Z') (hr : r < B) : Slot Z' r := by
  obtain ⟨⟨n, o, l, c, hx⟩, hf⟩ := h
  exact ⟨⟨n, o, l, c, (hb.cell (p := ⟨r, 0, none⟩) hr).trans hx.1, (hb.cell (p := ⟨r, 1, none⟩) hr).trans hx.2⟩, fun j => (hb.frozen (p := ⟨r, j, none⟩) hr).trans (hf j)⟩
theorem Slot.stay {ao : Option Addr} {Z Z' : World} {r : Nat} (h : Slot Z r) (hs : Stay ao Z Z') (hp : ∀ p : Addr, ao = some p → p.block ≠ r) : Slot Z' r := by
  have hr := h.lt
  obtain ⟨⟨n, o, l, c, hx⟩, hf⟩ := h
  exact ⟨⟨n, o, l, c, (hs.cell hr hp).trans hx.1, (hs.cell hr hp).trans hx.2⟩, fun j => (hs.frozen hr hp).trans (hf j)⟩
theorem Slot.new {w : World} {n : Bool} {o : Option Addr} {l c : Nat} : Slot (w.alloc (.cells #[.bool n, .slice o l c] 26)) w.heap.size ∧ Boxed (w.alloc (.cells #[.bool n, .slice o l c] 26)) w.heap.size n o l c := by
  have h : Boxed (w.alloc (.cells #[.bool n, .slice o l c] 26)) w.heap.size n o l c := ⟨by simp [go_sem], by simp [go_sem]⟩
  exact ⟨⟨⟨_, _, _, _, h⟩, fun j => by simp [go_sem]⟩, h⟩
theorem Slot.put {Z : World} {r : Nat} (h : Slot Z r) (n : Bool) (o : Option Addr) (l c : Nat) : Slot ((Z.setCell ⟨r, 0, none⟩ (.bool n)).setCell ⟨r, 1, none⟩ (.slice o l c)) r ∧ Boxed ((Z.setCell ⟨r, 0, none⟩ (.bool n)).setCell ⟨r, 1, none⟩ (.slice o l c)) r n o l c := by
  obtain ⟨⟨n', o', l', c', hx⟩, hf⟩ := h
  have hb : Boxed ((Z.setCell ⟨r, 0, none⟩ (.bool n)).setCell ⟨r, 1, none⟩ (.slice o l c)) r n o l c := boxed_new hx
  exact ⟨⟨⟨_, _, _, _, hb⟩, fun j => by rw [frozen_far, frozen_far]; exact hf j⟩, hb⟩
theorem Five.far {Z : World} {P r : Nat} {na nb : Bool} {ao bo : Option Addr} {la ca lb cb : Nat} {N : Int} (h : Five Z P na nb ao bo la ca lb cb N) (hp : P ≠ r) (x y : Value) : Five ((Z.setCell ⟨r, 0, none⟩ x).setCell ⟨r, 1, none⟩ y) P na nb ao bo la ca lb cb N :=
  ⟨by rw [cell_far hp, cell_far hp]; exact h.1, by rw [cell_far hp, cell_far hp]; exact h.2.1, by rw [cell_far hp, cell_far hp]; exact h.2.2.1, by rw [cell_far hp, cell_far hp]; exact h.2.2.2.1, by rw [cell_far hp, cell_far hp]; exact h.2.2.2.2⟩

/-- an answer in the variable r -/
structure Ans (B : Nat) (Z : World) (r : Nat) (n : Bool) (o : Option Addr) (l c : Nat) (v : Int) : Prop where
  box : Boxed Z r n o l c
  slot : Slot Z r
  sg : n = sgB v
  own : Own B Z .u64 44 o l c (mag v.natAbs)
  len : l ≤ 100000000
  off : ∀ p : Addr, o = some p → p.block ≠ r
theorem Ans.new {B : Nat} {y : World} {n : Bool} {o : Option Addr} {l c : Nat} {v : Int} (hs : n = sgB v) (ho : Own B y .u64 44 o l c (mag v.natAbs)) (hl : l ≤ 100000000) : Ans B (y.alloc (.cells #[.bool n, .slice o l c] 26)) y.heap.size n o l c v := by
  have hA : Below y.heap.size y (y.alloc (.cells #[.bool n, .slice o l c] 26)) := (Below.refl _ _).alloc (Nat.le_refl _) _
  exact ⟨Slot.new.2, Slot.new.1, hs, ho.later hA, hl, fun p hp e => by have := (ho.lt_of p hp).2; omega⟩
theorem Ans.put {B : Nat} {y : World} {r : Nat} {n : Bool} {o : Option Addr} {l c : Nat} {v : Int} (hr : Slot y r) (hrB : r < B) (hs : n = sgB v) (ho : Own B y .u64 44 o l c (mag v.natAbs)) (hl : l ≤ 100000000) : Ans B ((y.setCell ⟨r, 0, none⟩ (.bool n)).setCell ⟨r, 1, none⟩ (.slice o l c)) r n o l c v :=
  ⟨(hr.put _ _ _ _).2, (hr.put _ _ _ _).1, hs, ho.store hrB _ _, hl, fun p hp e => by have := (ho.lt_of p hp).1; omega⟩
/-- likewise, above what Z0 has -/
def AnsAt (Z0 wx : World) (r : Nat) (v : Int) : Prop := ∃ B n o l c, Ans B wx r n o l c v ∧ Z0.heap.size ≤ B ∧ B ≤ wx.heap.size ∧ Z0.heap.size ≤ r ∧ Below Z0.heap.size Z0 wx
/-- nothing was told -/
def NilAt (Z0 wx : World) (r : Nat) : Prop := Boxed wx r false none 0 0 ∧ Slot wx r ∧ Z0.heap.size ≤ r ∧ Below Z0.heap.size Z0 wx
theorem XVar.slot {Z : World} {r : Nat} {v : Int} (h : XVar Z r v) : Slot Z r := by
  obtain ⟨n, o, l, c, h1, _, h4⟩ := h; exact ⟨⟨_, _, _, _, h1⟩, h4⟩
theorem XVar.far {Z : World} {r s : Nat} {v : Int} (h : XVar Z s v) (hs : s ≠ r) (hr : Slot Z r) (x y : Value) : XVar ((Z.setCell ⟨r, 0, none⟩ x).setCell ⟨r, 1, none⟩ y) s v := by
  obtain ⟨n, o, l, c, h1, h2, h4⟩ := h
  obtain ⟨⟨n', o', l', c', hx⟩, _⟩ := hr
  exact ⟨n, o, l, c, boxed_far h1 hs _ _, ⟨h2.sg, h2.row.boxed hx _ _⟩, fun j => by rw [frozen_far, frozen_far]; exact h4 j⟩
theorem XVar.put {Z : World} {r : Nat} {n : Bool} {o : Option Addr} {l c : Nat} {v : Int} (hr : Slot Z r) (hi : IntAt Z n o l c v) : XVar ((Z.setCell ⟨r, 0, none⟩ (.bool n)).setCell ⟨r, 1, none⟩ (.slice o l c)) r v := by
  obtain ⟨⟨n', o', l', c', hx⟩, hf⟩ := hr
  exact ⟨n, o, l, c, boxed_new hx, ⟨hi.sg, hi.row.boxed hx _ _⟩, fun j => by rw [frozen_far, frozen_far]; exact hf j⟩
theorem XVar.zero {w : World} : XVar (w.alloc (.cells #[.bool false, .slice none 0 0] 26)) w.heap.size 0 :=
  ⟨false, none, 0, 0, Slot.new.2, ⟨rfl, by show RowAt _ _ _ _ _ (mag 0); rw [mag_of (n := 0) (Wd.nil _) Can.nil rfl]; exact RowAt.nilRow _ _⟩, fun j => by simp [go_sem]⟩
/-- how far a region has come -/
structure Tok (n : Nat) : Prop where
  t : True
theorem len_left (v : Int) (n : Nat) : (mag (v * ((2 ^ n : Nat) : Int)).natAbs).length ≤ (mag v.natAbs).length + (n + 1) := by
  rw [Int.natAbs_mul, Int.natAbs_natCast]
  have h1 := mag_len_mul v.natAbs (2 ^ n)
  have h2 := mag_len_two n
  omega
theorem len_right (v : Int) (n : Nat) : (mag (v / ((2 ^ n : Nat) : Int)).natAbs).length ≤ (mag v.natAbs).length := mag_len_mono (Int.natAbs_ediv_le_natAbs _ _)
theorem root_below {A n R : Nat} (hn : 1 ≤ n) (h : IsRoot A n R) : R ≤ A := by
  by_cases h0 : R = 0
  · omega
  · have h1 : R ^ 1 ≤ R ^ n := Nat.pow_le_pow_right (by omega) hn
    rw [Nat.pow_one] at h1
    exact Nat.le_trans h1 h.1
theorem len_two64 {n : Nat} (hn : n ≤ 64) : (mag (2 ^ n)).length ≤ 2 := mag_len_le (by
  have h1 : 2 ^ n ≤ 2 ^ 64 := Nat.pow_le_pow_right (by decide) hn
  have h2 : (18446744073709551616 : Int) ^ 2 = 340282366920938463463374607431768211456 := rfl
  have h3 : 2 ^ 64 = 18446744073709551616 := rfl
  rw [h2]; omega)
/-- p and the four variables of a round -/
structure Mv (w Z : World) (P g : Nat) (na nb : Bool) (ao bo : Option Addr) (la ca lb cb : Nat) (N : Int) (x : List Int) (s0 s1 s2 s3 : Int) : Prop where
  p : Five Z P na nb ao bo la ca lb cb N
  ja : RowAt Z .u64 ao la ca x
  v0 : XVar Z g s0
  v1 : XVar Z (g + 1) s1
  v2 : XVar Z (g + 2) s2
  v3 : XVar Z (g + 3) s3
  lo : P < g ∧ w.heap.size ≤ g
  hi : g + 3 < Z.heap.size
  bw : Below w.heap.size w Z
theorem Mv.later {w Z Z' : World} {P g : Nat} {na nb : Bool} {ao bo : Option Addr} {la ca lb cb : Nat} {N : Int} {x : List Int} {s0 s1 s2 s3 : Int} (h : Mv w Z P g na nb ao bo la ca lb cb N x s0 s1 s2 s3) (hb : Below Z.heap.size Z Z') : Mv w Z' P g na nb ao bo la ca lb cb N x s0 s1 s2 s3 := by
  have h1 := h.lo
  have h2 := h.hi
  exact ⟨h.p.later hb (by omega), h.ja.later hb, h.v0.later hb, h.v1.later hb, h.v2.later hb, h.v3.later hb, h1, Nat.lt_of_lt_of_le h2 hb.size, bnext h.bw hb⟩
theorem Mv.put0 {w Z Z' : World} {P g : Nat} {na nb : Bool} {ao bo : Option Addr} {la ca lb cb : Nat} {N : Int} {x : List Int} {s0 s1 s2 s3 : Int} {n : Bool} {o : Option Addr} {l c : Nat} {v : Int} (h : Mv w Z P g na nb ao bo la ca lb cb N x s0 s1 s2 s3) (hb : Below Z.heap.size Z Z') (hi : IntAt Z' n o l c v) : Mv w ((Z'.setCell ⟨g, 0, none⟩ (.bool n)).setCell ⟨g, 1, none⟩ (.slice o l c)) P g na nb ao bo la ca lb cb N x v s1 s2 s3 := by
  have k := h.later hb
  have h1 := k.lo
  have h2 := k.hi
  have hs := k.v0.slot
  obtain ⟨⟨n', o', l', c', hx⟩, hf⟩ := k.v0.slot
  exact ⟨k.p.far (by omega) _ _, k.ja.boxed hx _ _, XVar.put hs hi, k.v1.far (by omega) hs _ _, k.v2.far (by omega) hs _ _, k.v3.far (by omega) hs _ _, h1, by simpa [World.setCell] using h2, below_store k.bw (by omega) _ _⟩
theorem Mv.put1 {w Z Z' : World} {P g : Nat} {na nb : Bool} {ao bo : Option Addr} {la ca lb cb : Nat} {N : Int} {x : List Int} {s0 s1 s2 s3 : Int} {n : Bool} {o : Option Addr} {l c : Nat} {v : Int} (h : Mv w Z P g na nb ao bo la ca lb cb N x s0 s1 s2 s3) (hb : Below Z.heap.size Z Z') (hi : IntAt Z' n o l c v) : Mv w ((Z'.setCell ⟨g + 1, 0, none⟩ (.bool n)).setCell ⟨g + 1, 1, none⟩ (.slice o l c)) P g na nb ao bo la ca lb cb N x s0 v s2 s3 := by
  have k := h.later hb
  have h1 := k.lo
  have h2 := k.hi
  have hs := k.v1.slot
  obtain ⟨⟨n', o', l', c', hx⟩, hf⟩ := k.v1.slot
  exact ⟨k.p.far (by omega) _ _, k.ja.boxed hx _ _, k.v0.far (by omega) hs _ _, XVar.put hs hi, k.v2.far (by omega) hs _ _, k.v3.far (by omega) hs _ _, h1, by simpa [World.setCell] using h2, below_store k.bw (by omega) _ _⟩
theorem Mv.put2 {w Z Z' : World} {P g : Nat} {na nb : Bool} {ao bo : Option Addr} {la ca lb cb : Nat} {N : Int} {x : List Int} {s0 s1 s2 s3 : Int} {n : Bool} {o : Option Addr} {l c : Nat} {v : Int} (h : Mv w Z P g na nb ao bo la ca lb cb N x s0 s1 s2 s3) (hb : Below Z.heap.size Z Z') (hi : IntAt Z' n o l c v) : Mv w ((Z'.setCell ⟨g + 2, 0, none⟩ (.bool n)).setCell ⟨g + 2, 1, none⟩ (.slice o l c)) P g na nb ao bo la ca lb cb N x s0 s1 v s3 := by
  have k := h.later hb
  have h1 := k.lo
  have h2 := k.hi
  have hs := k.v2.slot
  obtain ⟨⟨n', o', l', c', hx⟩, hf⟩ := k.v2.slot
  exact ⟨k.p.far (by omega) _ _, k.ja.boxed hx _ _, k.v0.far (by omega) hs _ _, k.v1.far (by omega) hs _ _, XVar.put hs hi, k.v3.far (by omega) hs _ _, h1, by simpa [World.setCell] using h2, below_store k.bw (by omega) _ _⟩
theorem Mv.put3 {w Z Z' : World} {P g : Nat} {na nb : Bool} {ao bo : Option Addr} {la ca lb cb : Nat} {N : Int} {x : List Int} {s0 s1 s2 s3 : Int} {n : Bool} {o : Option Addr} {l c : Nat} {v : Int} (h : Mv w Z P g na nb ao bo la ca lb cb N x s0 s1 s2 s3) (hb : Below Z.heap.size Z Z') (hi : IntAt Z' n o l c v) : Mv w ((Z'.setCell ⟨g + 3, 0, none⟩ (.bool n)).setCell ⟨g + 3, 1, none⟩ (.slice o l c)) P g na nb ao bo la ca lb cb N x s0 s1 s2 v := by
  have k := h.later hb
  have h1 := k.lo
  have h2 := k.hi
  have hs := k.v3.slot
  obtain ⟨⟨n', o', l', c', hx⟩, hf⟩ := k.v3.slot
  exact ⟨k.p.far (by omega) _ _, k.ja.boxed hx _ _, k.v0.far (by omega) hs _ _, k.v1.far (by omega) hs _ _, k.v2.far (by omega) hs _ _, XVar.put hs hi, h1, by simpa [World.setCell] using h2, below_store k.bw (by omega) _ _⟩
theorem Mv.new {w Z : World} {P : Nat} {na nb : Bool} {ao bo : Option Addr} {la ca lb cb : Nat} {N : Int} {x : List Int} (p : Five Z P na nb ao bo la ca lb cb N) (ja : RowAt Z .u64 ao la ca x) (hp : P < Z.heap.size) (bw : Below w.heap.size w Z) :
    Mv w ((((Z.alloc (.cells #[.bool false, .slice none 0 0] 26)).alloc (.cells #[.bool false, .slice none 0 0] 26)).alloc (.cells #[.bool false, .slice none 0 0] 26)).alloc (.cells #[.bool false, .slice none 0 0] 26)) P Z.heap.size na nb ao bo la ca lb cb N x 0 0 0 0 := by
  have hA : ∀ Y : World, Below Y.heap.size Y (Y.alloc (.cells #[.bool false, .slice none 0 0] 26)) := fun Y => (Below.refl _ _).alloc (Nat.le_refl _) _
  have hv : ∀ Y : World, XVar (Y.alloc (.cells #[.bool false, .slice none 0 0] 26)) Y.heap.size 0 := fun Y => XVar.zero
  have h0 := hv Z
  have h1 := hv (Z.alloc (.cells #[.bool false, .slice none 0 0] 26))
  have h2 := hv ((Z.alloc (.cells #[.bool false, .slice none 0 0] 26)).alloc (.cells #[.bool false, .slice none 0 0] 26))
  have h3 := hv (((Z.alloc (.cells #[.bool false, .slice none 0 0] 26)).alloc (.cells #[.bool false, .slice none 0 0] 26)).alloc (.cells #[.bool false, .slice none 0 0] 26))
  have e : ∀ Y : World, (Y.alloc (.cells #[.bool false, .slice none 0 0] 26)).heap.size = Y.heap.size + 1 := fun Y => by simp
  simp only [e] at h1 h2 h3
  have hb := bnext (bnext (bnext (hA Z) (hA _)) (hA _)) (hA _)
  exact ⟨p.later hb hp, ja.later hb, ((h0.later (hA _)).later (hA _)).later (hA _), (h1.later (hA _)).later (hA _), h2.later (hA _), h3, ⟨hp, bw.size⟩, by simp, bnext bw hb⟩
end Go.Proofs.Ytmjbmgjegiimfaa
