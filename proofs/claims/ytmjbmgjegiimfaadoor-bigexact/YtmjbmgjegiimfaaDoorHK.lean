/-
  BigExact: what a round has in its hands.
-/
import Derived.Test.YtmjbmgjegiimfaaDoorHJ
import Derived.Test.YtmjbmgjegiimfaaDoorLE0
namespace Go.Proofs.YtmjbmgjegiimfaaDoor
open Go.RowKit
set_option linter.unusedVariables false
set_option linter.unusedSimpArgs false

theorem len_sum (a b : Int) : (mag (a + b).natAbs).length ≤ (mag a.natAbs).length + (mag b.natAbs).length + 1 := by
  have h1 : (a + b).natAbs ≤ a.natAbs + b.natAbs := Int.natAbs_add_le a b
  exact Nat.le_trans (mag_len_mono h1) (mag_len_add _ _)
theorem len_less (a b : Int) : (mag (a - b).natAbs).length ≤ (mag a.natAbs).length + (mag b.natAbs).length + 1 := by
  have h := len_sum a (-b)
  rw [Int.natAbs_neg, ← Int.sub_eq_add_neg] at h; exact h
theorem len_prod (a b : Int) : (mag (a * b).natAbs).length ≤ (mag a.natAbs).length + (mag b.natAbs).length := by
  rw [Int.natAbs_mul]; exact mag_len_mul _ _
theorem len_gcd (a b : Int) : (mag ((Int.gcd a b : Int)).natAbs).length ≤ (mag a.natAbs).length + (mag b.natAbs).length := by
  rw [Int.natAbs_natCast]; exact gcd_len _ _
theorem Own.lt_of {B : Nat} {w : World} {k : IntKind} {t : TypeId} {ao : Option Addr} {len cap : Nat} {zs : List Int} (h : Own B w k t ao len cap zs) : ∀ p : Addr, ao = some p → B ≤ p.block ∧ p.block < w.heap.size := by
  intro p hp
  rcases h with ⟨h1, _⟩ | ⟨g, off, cur, h1, h2, h3, _⟩
  · rw [h1] at hp; cases hp
  · rw [h1] at hp; cases hp
    exact ⟨h2, heap_lt h3⟩
theorem Own.stay {B : Nat} {w w' : World} {k : IntKind} {t : TypeId} {ao bo : Option Addr} {len cap : Nat} {zs : List Int} (h : Own B w k t bo len cap zs) (hs : Stay ao w w') (hp : Parted ao bo) : Own B w' k t bo len cap zs := by
  rcases h with h | ⟨g, off, L, h1, h2, h3, h4⟩
  · exact Or.inl h
  · exact Or.inr ⟨g, off, L, h1, h2, by rw [hs.block g (heap_lt h3) (fun p hp' => hp p _ hp' h1)]; exact h3, h4⟩

/-- a variable that may be written -/
def Slot (Z : World) (r : Nat) : Prop := (∃ n o l c, Boxed Z r n o l c) ∧ (∀ j, Z.frozen? ⟨r, j, none⟩ = false)
theorem Boxed.lt {Z : World} {r : Nat} {n : Bool} {o : Option Addr} {l c : Nat} (h : Boxed Z r n o l c) : r < Z.heap.size := cell_lt h.1
theorem Slot.lt {Z : World} {r : Nat} (h : Slot Z r) : r < Z.heap.size := by
  obtain ⟨⟨n, o, l, c, hb⟩, _⟩ := h; exact hb.lt
theorem Slot.at {Z Z' : World} {r B : Nat} (h : Slot Z r) (hb : Below B Z Z') (hr : r < B) : Slot Z' r := by
  obtain ⟨⟨n, o, l, c, hx⟩, hf⟩ := h
  exact ⟨⟨n, o, l, c, (hb.cell (p := ⟨r, 0, none⟩) hr).trans hx.1, (hb.cell (p := ⟨r, 1, none⟩) hr).trans hx.2⟩, fun j => (hb.frozen (p := ⟨r, j, none⟩) hr).trans (hf j)⟩
theorem Slot.stay {ao : Option Addr} {Z Z' : World} {r : Nat} (h : Slot Z r) (hs : Stay ao Z Z') (hp : ∀ p : Addr, ao = some p → p.block ≠ r) : Slot Z' r := by
  have hr := h.lt
  obtain ⟨⟨n, o, l, c, hx⟩, hf⟩ := h
  exact ⟨⟨n, o, l, c, (hs.cell hr hp).trans hx.1, (hs.cell hr hp).trans hx.2⟩, fun j => (hs.frozen hr hp).trans (hf j)⟩
theorem Slot.new {w : World} {n : Bool} {o : Option Addr} {l c : Nat} : Slot (w.alloc (.cells #[.bool n, .slice o l c] 26)) w.heap.size ∧ Boxed (w.alloc (.cells #[.bool n, .slice o l c] 26)) w.heap.size n o l c := by
  have h : Boxed (w.alloc (.cells #[.bool n, .slice o l c] 26)) w.heap.size n o l c := ⟨by simp [go_sem], by simp [go_sem]⟩
  exact ⟨⟨⟨_, _, _, _, h⟩, fun j => by simp [go_sem]⟩, h⟩
theorem Slot.put {Z : World} {r : Nat} (h : Slot Z r) (n : Bool) (o : Option Addr) (l c : Nat) : Slot ((Z.setCell ⟨r, 0, none⟩ (.bool n)).setCell ⟨r, 1, none⟩ (.slice o l c)) r ∧ Boxed ((Z.setCell ⟨r, 0, none⟩ (.bool n)).setCell ⟨r, 1, none⟩ (.slice o l c)) r n o l c := by
  obtain ⟨⟨n', o', l', c', hx⟩, hf⟩ := h
  have hb : Boxed ((Z.setCell ⟨r, 0, none⟩ (.bool n)).setCell ⟨r, 1, none⟩ (.slice o l c)) r n o l c := boxed_new hx
  exact ⟨⟨⟨_, _, _, _, hb⟩, fun j => by rw [frozen_far, frozen_far]; exact hf j⟩, hb⟩
/-- a variable that holds a number of at most a hundred limbs -/
def Var (Z : World) (r : Nat) (v : Int) : Prop := ∃ n o l c, Boxed Z r n o l c ∧ IntAt Z n o l c v ∧ l ≤ 100 ∧ ∀ j, Z.frozen? ⟨r, j, none⟩ = false
theorem Var.slot {Z : World} {r : Nat} {v : Int} (h : Var Z r v) : Slot Z r := by
  obtain ⟨n, o, l, c, h1, _, _, h4⟩ := h; exact ⟨⟨_, _, _, _, h1⟩, h4⟩
theorem Var.later {Z Z' : World} {r : Nat} {v : Int} (h : Var Z r v) (hb : Below Z.heap.size Z Z') : Var Z' r v := by
  have hr := h.slot.lt
  obtain ⟨n, o, l, c, h1, h2, h3, h4⟩ := h
  exact ⟨n, o, l, c, h1.later hb hr, h2.later hb, h3, fun j => (hb.frozen (p := ⟨r, j, none⟩) hr).trans (h4 j)⟩
theorem Var.far {Z : World} {r s : Nat} {v : Int} (h : Var Z s v) (hs : s ≠ r) (hr : Slot Z r) (x y : Value) : Var ((Z.setCell ⟨r, 0, none⟩ x).setCell ⟨r, 1, none⟩ y) s v := by
  obtain ⟨n, o, l, c, h1, h2, h3, h4⟩ := h
  obtain ⟨⟨n', o', l', c', hx⟩, _⟩ := hr
  exact ⟨n, o, l, c, boxed_far h1 hs _ _, ⟨h2.sg, h2.row.boxed hx _ _⟩, h3, fun j => by rw [frozen_far, frozen_far]; exact h4 j⟩
theorem Var.put {Z : World} {r : Nat} {n : Bool} {o : Option Addr} {l c : Nat} {v : Int} (hr : Slot Z r) (hi : IntAt Z n o l c v) (hl : l ≤ 100) : Var ((Z.setCell ⟨r, 0, none⟩ (.bool n)).setCell ⟨r, 1, none⟩ (.slice o l c)) r v := by
  obtain ⟨⟨n', o', l', c', hx⟩, hf⟩ := hr
  exact ⟨n, o, l, c, boxed_new hx, ⟨hi.sg, hi.row.boxed hx _ _⟩, hl, fun j => by rw [frozen_far, frozen_far]; exact hf j⟩
theorem Var.zero {w : World} : Var (w.alloc (.cells #[.bool false, .slice none 0 0] 26)) w.heap.size 0 :=
  ⟨false, none, 0, 0, Slot.new.2, ⟨rfl, by show RowAt _ _ _ _ _ (mag 0); rw [mag_of (n := 0) (Wd.nil _) Can.nil rfl]; exact RowAt.nilRow _ _⟩, by omega, fun j => by simp [go_sem]⟩
theorem Five.far {Z : World} {P r : Nat} {na nb : Bool} {ao bo : Option Addr} {la ca lb cb : Nat} {N : Int} (h : Five Z P na nb ao bo la ca lb cb N) (hp : P ≠ r) (x y : Value) : Five ((Z.setCell ⟨r, 0, none⟩ x).setCell ⟨r, 1, none⟩ y) P na nb ao bo la ca lb cb N :=
  ⟨by rw [cell_far hp, cell_far hp]; exact h.1, by rw [cell_far hp, cell_far hp]; exact h.2.1, by rw [cell_far hp, cell_far hp]; exact h.2.2.1, by rw [cell_far hp, cell_far hp]; exact h.2.2.2.1, by rw [cell_far hp, cell_far hp]; exact h.2.2.2.2⟩

/-- p, a, b and the six variables of a round -/
structure Ex (w Z : World) (P rA rB g : Nat) (na nb : Bool) (ao bo a1 b1 : Option Addr) (la ca lb cb c1 d1 : Nat) (N : Int) (x y : List Int) (s0 s1 s2 s3 s4 s5 : Int) : Prop where
  p : Five Z P na nb ao bo la ca lb cb N
  ba : Boxed Z rA na a1 la c1
  bb : Boxed Z rB nb b1 lb d1
  ra : RowAt Z .u64 a1 la c1 x
  rb : RowAt Z .u64 b1 lb d1 y
  ja : RowAt Z .u64 ao la ca x
  jb : RowAt Z .u64 bo lb cb y
  v0 : Var Z g s0
  v1 : Var Z (g + 1) s1
  v2 : Var Z (g + 2) s2
  v3 : Var Z (g + 3) s3
  v4 : Var Z (g + 4) s4
  v5 : Var Z (g + 5) s5
  lo : P < g ∧ rA < g ∧ rB < g ∧ w.heap.size ≤ g
  hi : g + 5 < Z.heap.size
  bw : Below w.heap.size w Z
theorem Ex.later {w Z Z' : World} {P rA rB g : Nat} {na nb : Bool} {ao bo a1 b1 : Option Addr} {la ca lb cb c1 d1 : Nat} {N : Int} {x y : List Int} {s0 s1 s2 s3 s4 s5 : Int} (h : Ex w Z P rA rB g na nb ao bo a1 b1 la ca lb cb c1 d1 N x y s0 s1 s2 s3 s4 s5) (hb : Below Z.heap.size Z Z') : Ex w Z' P rA rB g na nb ao bo a1 b1 la ca lb cb c1 d1 N x y s0 s1 s2 s3 s4 s5 := by
  have h1 := h.lo
  have h2 := h.hi
  exact ⟨h.p.later hb (by omega), h.ba.later hb (by omega), h.bb.later hb (by omega), h.ra.later hb, h.rb.later hb, h.ja.later hb, h.jb.later hb, h.v0.later hb, h.v1.later hb, h.v2.later hb, h.v3.later hb, h.v4.later hb, h.v5.later hb, h1, Nat.lt_of_lt_of_le h2 hb.size, bnext h.bw hb⟩
theorem Ex.put0 {w Z Z' : World} {P rA rB g : Nat} {na nb : Bool} {ao bo a1 b1 : Option Addr} {la ca lb cb c1 d1 : Nat} {N : Int} {x y : List Int} {s0 s1 s2 s3 s4 s5 : Int} {n : Bool} {o : Option Addr} {l c : Nat} {v : Int} (h : Ex w Z P rA rB g na nb ao bo a1 b1 la ca lb cb c1 d1 N x y s0 s1 s2 s3 s4 s5) (hb : Below Z.heap.size Z Z') (hi : IntAt Z' n o l c v) (hl : l ≤ 100) : Ex w ((Z'.setCell ⟨g, 0, none⟩ (.bool n)).setCell ⟨g, 1, none⟩ (.slice o l c)) P rA rB g na nb ao bo a1 b1 la ca lb cb c1 d1 N x y v s1 s2 s3 s4 s5 := by
  have k := h.later hb
  have h1 := k.lo
  have h2 := k.hi
  have hs := k.v0.slot
  obtain ⟨⟨n', o', l', c', hx⟩, hf⟩ := k.v0.slot
  exact ⟨k.p.far (by omega) _ _, boxed_far k.ba (by omega) _ _, boxed_far k.bb (by omega) _ _, k.ra.boxed hx _ _, k.rb.boxed hx _ _, k.ja.boxed hx _ _, k.jb.boxed hx _ _, Var.put hs hi hl, k.v1.far (by omega) hs _ _, k.v2.far (by omega) hs _ _, k.v3.far (by omega) hs _ _, k.v4.far (by omega) hs _ _, k.v5.far (by omega) hs _ _, h1, by simpa [World.setCell] using h2, below_store k.bw (by omega) _ _⟩
theorem Ex.put1 {w Z Z' : World} {P rA rB g : Nat} {na nb : Bool} {ao bo a1 b1 : Option Addr} {la ca lb cb c1 d1 : Nat} {N : Int} {x y : List Int} {s0 s1 s2 s3 s4 s5 : Int} {n : Bool} {o : Option Addr} {l c : Nat} {v : Int} (h : Ex w Z P rA rB g na nb ao bo a1 b1 la ca lb cb c1 d1 N x y s0 s1 s2 s3 s4 s5) (hb : Below Z.heap.size Z Z') (hi : IntAt Z' n o l c v) (hl : l ≤ 100) : Ex w ((Z'.setCell ⟨g + 1, 0, none⟩ (.bool n)).setCell ⟨g + 1, 1, none⟩ (.slice o l c)) P rA rB g na nb ao bo a1 b1 la ca lb cb c1 d1 N x y s0 v s2 s3 s4 s5 := by
  have k := h.later hb
  have h1 := k.lo
  have h2 := k.hi
  have hs := k.v1.slot
  obtain ⟨⟨n', o', l', c', hx⟩, hf⟩ := k.v1.slot
  exact ⟨k.p.far (by omega) _ _, boxed_far k.ba (by omega) _ _, boxed_far k.bb (by omega) _ _, k.ra.boxed hx _ _, k.rb.boxed hx _ _, k.ja.boxed hx _ _, k.jb.boxed hx _ _, k.v0.far (by omega) hs _ _, Var.put hs hi hl, k.v2.far (by omega) hs _ _, k.v3.far (by omega) hs _ _, k.v4.far (by omega) hs _ _, k.v5.far (by omega) hs _ _, h1, by simpa [World.setCell] using h2, below_store k.bw (by omega) _ _⟩
theorem Ex.put2 {w Z Z' : World} {P rA rB g : Nat} {na nb : Bool} {ao bo a1 b1 : Option Addr} {la ca lb cb c1 d1 : Nat} {N : Int} {x y : List Int} {s0 s1 s2 s3 s4 s5 : Int} {n : Bool} {o : Option Addr} {l c : Nat} {v : Int} (h : Ex w Z P rA rB g na nb ao bo a1 b1 la ca lb cb c1 d1 N x y s0 s1 s2 s3 s4 s5) (hb : Below Z.heap.size Z Z') (hi : IntAt Z' n o l c v) (hl : l ≤ 100) : Ex w ((Z'.setCell ⟨g + 2, 0, none⟩ (.bool n)).setCell ⟨g + 2, 1, none⟩ (.slice o l c)) P rA rB g na nb ao bo a1 b1 la ca lb cb c1 d1 N x y s0 s1 v s3 s4 s5 := by
  have k := h.later hb
  have h1 := k.lo
  have h2 := k.hi
  have hs := k.v2.slot
  obtain ⟨⟨n', o', l', c', hx⟩, hf⟩ := k.v2.slot
  exact ⟨k.p.far (by omega) _ _, boxed_far k.ba (by omega) _ _, boxed_far k.bb (by omega) _ _, k.ra.boxed hx _ _, k.rb.boxed hx _ _, k.ja.boxed hx _ _, k.jb.boxed hx _ _, k.v0.far (by omega) hs _ _, k.v1.far (by omega) hs _ _, Var.put hs hi hl, k.v3.far (by omega) hs _ _, k.v4.far (by omega) hs _ _, k.v5.far (by omega) hs _ _, h1, by simpa [World.setCell] using h2, below_store k.bw (by omega) _ _⟩
theorem Ex.put3 {w Z Z' : World} {P rA rB g : Nat} {na nb : Bool} {ao bo a1 b1 : Option Addr} {la ca lb cb c1 d1 : Nat} {N : Int} {x y : List Int} {s0 s1 s2 s3 s4 s5 : Int} {n : Bool} {o : Option Addr} {l c : Nat} {v : Int} (h : Ex w Z P rA rB g na nb ao bo a1 b1 la ca lb cb c1 d1 N x y s0 s1 s2 s3 s4 s5) (hb : Below Z.heap.size Z Z') (hi : IntAt Z' n o l c v) (hl : l ≤ 100) : Ex w ((Z'.setCell ⟨g + 3, 0, none⟩ (.bool n)).setCell ⟨g + 3, 1, none⟩ (.slice o l c)) P rA rB g na nb ao bo a1 b1 la ca lb cb c1 d1 N x y s0 s1 s2 v s4 s5 := by
  have k := h.later hb
  have h1 := k.lo
  have h2 := k.hi
  have hs := k.v3.slot
  obtain ⟨⟨n', o', l', c', hx⟩, hf⟩ := k.v3.slot
  exact ⟨k.p.far (by omega) _ _, boxed_far k.ba (by omega) _ _, boxed_far k.bb (by omega) _ _, k.ra.boxed hx _ _, k.rb.boxed hx _ _, k.ja.boxed hx _ _, k.jb.boxed hx _ _, k.v0.far (by omega) hs _ _, k.v1.far (by omega) hs _ _, k.v2.far (by omega) hs _ _, Var.put hs hi hl, k.v4.far (by omega) hs _ _, k.v5.far (by omega) hs _ _, h1, by simpa [World.setCell] using h2, below_store k.bw (by omega) _ _⟩
theorem Ex.put4 {w Z Z' : World} {P rA rB g : Nat} {na nb : Bool} {ao bo a1 b1 : Option Addr} {la ca lb cb c1 d1 : Nat} {N : Int} {x y : List Int} {s0 s1 s2 s3 s4 s5 : Int} {n : Bool} {o : Option Addr} {l c : Nat} {v : Int} (h : Ex w Z P rA rB g na nb ao bo a1 b1 la ca lb cb c1 d1 N x y s0 s1 s2 s3 s4 s5) (hb : Below Z.heap.size Z Z') (hi : IntAt Z' n o l c v) (hl : l ≤ 100) : Ex w ((Z'.setCell ⟨g + 4, 0, none⟩ (.bool n)).setCell ⟨g + 4, 1, none⟩ (.slice o l c)) P rA rB g na nb ao bo a1 b1 la ca lb cb c1 d1 N x y s0 s1 s2 s3 v s5 := by
  have k := h.later hb
  have h1 := k.lo
  have h2 := k.hi
  have hs := k.v4.slot
  obtain ⟨⟨n', o', l', c', hx⟩, hf⟩ := k.v4.slot
  exact ⟨k.p.far (by omega) _ _, boxed_far k.ba (by omega) _ _, boxed_far k.bb (by omega) _ _, k.ra.boxed hx _ _, k.rb.boxed hx _ _, k.ja.boxed hx _ _, k.jb.boxed hx _ _, k.v0.far (by omega) hs _ _, k.v1.far (by omega) hs _ _, k.v2.far (by omega) hs _ _, k.v3.far (by omega) hs _ _, Var.put hs hi hl, k.v5.far (by omega) hs _ _, h1, by simpa [World.setCell] using h2, below_store k.bw (by omega) _ _⟩
theorem Ex.put5 {w Z Z' : World} {P rA rB g : Nat} {na nb : Bool} {ao bo a1 b1 : Option Addr} {la ca lb cb c1 d1 : Nat} {N : Int} {x y : List Int} {s0 s1 s2 s3 s4 s5 : Int} {n : Bool} {o : Option Addr} {l c : Nat} {v : Int} (h : Ex w Z P rA rB g na nb ao bo a1 b1 la ca lb cb c1 d1 N x y s0 s1 s2 s3 s4 s5) (hb : Below Z.heap.size Z Z') (hi : IntAt Z' n o l c v) (hl : l ≤ 100) : Ex w ((Z'.setCell ⟨g + 5, 0, none⟩ (.bool n)).setCell ⟨g + 5, 1, none⟩ (.slice o l c)) P rA rB g na nb ao bo a1 b1 la ca lb cb c1 d1 N x y s0 s1 s2 s3 s4 v := by
  have k := h.later hb
  have h1 := k.lo
  have h2 := k.hi
  have hs := k.v5.slot
  obtain ⟨⟨n', o', l', c', hx⟩, hf⟩ := k.v5.slot
  exact ⟨k.p.far (by omega) _ _, boxed_far k.ba (by omega) _ _, boxed_far k.bb (by omega) _ _, k.ra.boxed hx _ _, k.rb.boxed hx _ _, k.ja.boxed hx _ _, k.jb.boxed hx _ _, k.v0.far (by omega) hs _ _, k.v1.far (by omega) hs _ _, k.v2.far (by omega) hs _ _, k.v3.far (by omega) hs _ _, k.v4.far (by omega) hs _ _, Var.put hs hi hl, h1, by simpa [World.setCell] using h2, below_store k.bw (by omega) _ _⟩
theorem Ex.new {w Z : World} {P rA rB : Nat} {na nb : Bool} {ao bo a1 b1 : Option Addr} {la ca lb cb c1 d1 : Nat} {N : Int} {x y : List Int} (p : Five Z P na nb ao bo la ca lb cb N) (ba : Boxed Z rA na a1 la c1) (bb : Boxed Z rB nb b1 lb d1) (ra : RowAt Z .u64 a1 la c1 x) (rb : RowAt Z .u64 b1 lb d1 y) (ja : RowAt Z .u64 ao la ca x) (jb : RowAt Z .u64 bo lb cb y) (hp : P < Z.heap.size) (bw : Below w.heap.size w Z) :
    Ex w ((((((Z.alloc (.cells #[.bool false, .slice none 0 0] 26)).alloc (.cells #[.bool false, .slice none 0 0] 26)).alloc (.cells #[.bool false, .slice none 0 0] 26)).alloc (.cells #[.bool false, .slice none 0 0] 26)).alloc (.cells #[.bool false, .slice none 0 0] 26)).alloc (.cells #[.bool false, .slice none 0 0] 26)) P rA rB Z.heap.size na nb ao bo a1 b1 la ca lb cb c1 d1 N x y 0 0 0 0 0 0 := by
  have hA : ∀ Y : World, Below Y.heap.size Y (Y.alloc (.cells #[.bool false, .slice none 0 0] 26)) := fun Y => (Below.refl _ _).alloc (Nat.le_refl _) _
  have hv : ∀ Y : World, Var (Y.alloc (.cells #[.bool false, .slice none 0 0] 26)) Y.heap.size 0 := fun Y => Var.zero
  have h0 := hv Z
  have h1 := hv (Z.alloc (.cells #[.bool false, .slice none 0 0] 26))
  have h2 := hv ((Z.alloc (.cells #[.bool false, .slice none 0 0] 26)).alloc (.cells #[.bool false, .slice none 0 0] 26))
  have h3 := hv (((Z.alloc (.cells #[.bool false, .slice none 0 0] 26)).alloc (.cells #[.bool false, .slice none 0 0] 26)).alloc (.cells #[.bool false, .slice none 0 0] 26))
  have h4 := hv ((((Z.alloc (.cells #[.bool false, .slice none 0 0] 26)).alloc (.cells #[.bool false, .slice none 0 0] 26)).alloc (.cells #[.bool false, .slice none 0 0] 26)).alloc (.cells #[.bool false, .slice none 0 0] 26))
  have h5 := hv (((((Z.alloc (.cells #[.bool false, .slice none 0 0] 26)).alloc (.cells #[.bool false, .slice none 0 0] 26)).alloc (.cells #[.bool false, .slice none 0 0] 26)).alloc (.cells #[.bool false, .slice none 0 0] 26)).alloc (.cells #[.bool false, .slice none 0 0] 26))
  have e : ∀ Y : World, (Y.alloc (.cells #[.bool false, .slice none 0 0] 26)).heap.size = Y.heap.size + 1 := fun Y => by simp
  simp only [e] at h1 h2 h3 h4 h5
  have hb := bnext (bnext (bnext (bnext (bnext (hA Z) (hA _)) (hA _)) (hA _)) (hA _)) (hA _)
  refine ⟨p.later hb hp, ba.later hb ba.lt, bb.later hb bb.lt, ra.later hb, rb.later hb, ja.later hb, jb.later hb, ((((h0.later (hA _)).later (hA _)).later (hA _)).later (hA _)).later (hA _), (((h1.later (hA _)).later (hA _)).later (hA _)).later (hA _), ((h2.later (hA _)).later (hA _)).later (hA _), (h3.later (hA _)).later (hA _), h4.later (hA _), h5, ⟨hp, ba.lt, bb.lt, bw.size⟩, by simp, bnext bw hb⟩
/-- an answer in the variable r -/
structure Ans (B : Nat) (Z : World) (r : Nat) (n : Bool) (o : Option Addr) (l c : Nat) (v : Int) : Prop where
  box : Boxed Z r n o l c
  slot : Slot Z r
  sg : n = sgB v
  own : Own B Z .u64 64 o l c (mag v.natAbs)
  len : l ≤ 100
  off : ∀ p : Addr, o = some p → p.block ≠ r
theorem Ans.new {B : Nat} {y : World} {n : Bool} {o : Option Addr} {l c : Nat} {v : Int} (hs : n = sgB v) (ho : Own B y .u64 64 o l c (mag v.natAbs)) (hl : l ≤ 100) : Ans B (y.alloc (.cells #[.bool n, .slice o l c] 26)) y.heap.size n o l c v := by
  have hA : Below y.heap.size y (y.alloc (.cells #[.bool n, .slice o l c] 26)) := (Below.refl _ _).alloc (Nat.le_refl _) _
  exact ⟨Slot.new.2, Slot.new.1, hs, ho.later hA, hl, fun p hp e => by have := (ho.lt_of p hp).2; omega⟩
theorem Ans.put {B : Nat} {y : World} {r : Nat} {n : Bool} {o : Option Addr} {l c : Nat} {v : Int} (hr : Slot y r) (hrB : r < B) (hs : n = sgB v) (ho : Own B y .u64 64 o l c (mag v.natAbs)) (hl : l ≤ 100) : Ans B ((y.setCell ⟨r, 0, none⟩ (.bool n)).setCell ⟨r, 1, none⟩ (.slice o l c)) r n o l c v :=
  ⟨(hr.put _ _ _ _).2, (hr.put _ _ _ _).1, hs, ho.store hrB _ _, hl, fun p hp e => by have := (ho.lt_of p hp).1; omega⟩
/-- likewise, above what Z0 has -/
def AnsAt (Z0 wx : World) (r : Nat) (v : Int) : Prop := ∃ B n o l c, Ans B wx r n o l c v ∧ Z0.heap.size ≤ B ∧ B ≤ wx.heap.size ∧ Z0.heap.size ≤ r ∧ Below Z0.heap.size Z0 wx
/-- nothing was told -/
def NilAt (Z0 wx : World) (r : Nat) : Prop := Boxed wx r false none 0 0 ∧ Slot wx r ∧ Z0.heap.size ≤ r ∧ Below Z0.heap.size Z0 wx
/-- two answers -/
def TwoAt (Z0 wx : World) (r t : Nat) (q s : Int) : Prop := ∃ B n o l c n' o' l' c', Ans B wx r n o l c q ∧ Ans B wx t n' o' l' c' s ∧ Parted o o' ∧ (∀ p : Addr, o = some p → p.block ≠ t) ∧ Z0.heap.size ≤ B ∧ B ≤ wx.heap.size ∧ Below Z0.heap.size Z0 wx
theorem put_size {y : World} {r : Nat} {v u : Value} : ((y.setCell ⟨r, 0, none⟩ v).setCell ⟨r, 1, none⟩ u).heap.size = y.heap.size := by simp [World.setCell]
theorem nil_two {Z0 YD y5 : World} {r : Nat} (hs : Slot YD r) (hK : Z0.heap.size ≤ r) (hb : Below Z0.heap.size Z0 YD) (h5 : Below YD.heap.size YD y5) :
    NilAt Z0 (((y5.setCell ⟨r, 0, none⟩ (.bool false)).setCell ⟨r, 1, none⟩ (.slice none 0 0)).alloc (.cells #[.bool false, .slice none 0 0] 26)) r ∧ NilAt Z0 (((y5.setCell ⟨r, 0, none⟩ (.bool false)).setCell ⟨r, 1, none⟩ (.slice none 0 0)).alloc (.cells #[.bool false, .slice none 0 0] 26)) y5.heap.size := by
  have hr5 := hs.at h5 hs.lt
  have hp := hr5.put false none 0 0
  have hn := Slot.new (w := (y5.setCell ⟨r, 0, none⟩ (.bool false)).setCell ⟨r, 1, none⟩ (.slice none 0 0)) (n := false) (o := none) (l := 0) (c := 0)
  rw [put_size] at hn
  have hA : Below ((y5.setCell ⟨r, 0, none⟩ (.bool false)).setCell ⟨r, 1, none⟩ (.slice none 0 0)).heap.size ((y5.setCell ⟨r, 0, none⟩ (.bool false)).setCell ⟨r, 1, none⟩ (.slice none 0 0)) (((y5.setCell ⟨r, 0, none⟩ (.bool false)).setCell ⟨r, 1, none⟩ (.slice none 0 0)).alloc (.cells #[.bool false, .slice none 0 0] 26)) := (Below.refl _ _).alloc (Nat.le_refl _) _
  have hB : Below Z0.heap.size Z0 (((y5.setCell ⟨r, 0, none⟩ (.bool false)).setCell ⟨r, 1, none⟩ (.slice none 0 0)).alloc (.cells #[.bool false, .slice none 0 0] 26)) := below_alloc (below_store (hb.trans (h5.mono hb.size)) hK _ _) (Nat.le_refl _)
  exact ⟨⟨hp.2.later hA hp.2.lt, hp.1.at hA hp.1.lt, hK, hB⟩, ⟨hn.2, hn.1, Nat.le_trans hb.size h5.size, hB⟩⟩
theorem two_two {Z0 YD y5 : World} {r : Nat} {n n' : Bool} {o o' : Option Addr} {l c l' c' : Nat} {q s : Int} (hs : Slot YD r) (hK : Z0.heap.size ≤ r) (hb : Below Z0.heap.size Z0 YD) (h5 : Below YD.heap.size YD y5) (h1 : n = sgB q) (h2 : Own YD.heap.size y5 .u64 64 o l c (mag q.natAbs)) (h3 : n' = sgB s) (h4 : Own YD.heap.size y5 .u64 64 o' l' c' (mag s.natAbs)) (hp : Parted o o') (hl : l ≤ 100) (hl' : l' ≤ 100) :
    TwoAt Z0 (((y5.setCell ⟨r, 0, none⟩ (.bool n)).setCell ⟨r, 1, none⟩ (.slice o l c)).alloc (.cells #[.bool n', .slice o' l' c'] 26)) r y5.heap.size q s := by
  have hr5 := hs.at h5 hs.lt
  have a1 := Ans.put hr5 hs.lt h1 h2 hl
  have a2 := Ans.new h3 (h4.store (r := r) hs.lt (.bool n) (.slice o l c)) hl'
  rw [put_size] at a2
  have hA : Below ((y5.setCell ⟨r, 0, none⟩ (.bool n)).setCell ⟨r, 1, none⟩ (.slice o l c)).heap.size ((y5.setCell ⟨r, 0, none⟩ (.bool n)).setCell ⟨r, 1, none⟩ (.slice o l c)) (((y5.setCell ⟨r, 0, none⟩ (.bool n)).setCell ⟨r, 1, none⟩ (.slice o l c)).alloc (.cells #[.bool n', .slice o' l' c'] 26)) := (Below.refl _ _).alloc (Nat.le_refl _) _
  have hB : Below Z0.heap.size Z0 (((y5.setCell ⟨r, 0, none⟩ (.bool n)).setCell ⟨r, 1, none⟩ (.slice o l c)).alloc (.cells #[.bool n', .slice o' l' c'] 26)) := below_alloc (below_store (hb.trans (h5.mono hb.size)) hK _ _) (Nat.le_refl _)
  refine ⟨_, _, _, _, _, _, _, _, _, ⟨a1.box.later hA a1.box.lt, a1.slot.at hA a1.slot.lt, a1.sg, a1.own.later hA, hl, a1.off⟩, a2, hp, fun p hp' e => ?_, hb.size, ?_, hB⟩
  · have := (h2.lt_of p hp').2; omega
  · have := h5.size; have := hA.size; rw [put_size] at this; omega
end Go.Proofs.YtmjbmgjegiimfaaDoor
