/-
  RatExact: what a round has in its hands. (gen/rexact0.py)
-/
import Derived.Test.YtljmbnbilmghhaaGreatDoorRW
namespace Go.Proofs.YtljmbnbilmghhaaGreatDoor
open Go.RowKit
set_option linter.unusedVariables false
set_option linter.unusedSimpArgs false

theorem Own.lt_of3 {B : Nat} {w : World} {k : IntKind} {t : TypeId} {ao : Option Addr} {len cap : Nat} {zs : List Int} (h : Own B w k t ao len cap zs) : ∀ p : Addr, ao = some p → B ≤ p.block ∧ p.block < w.heap.size := by
  intro p hp
  rcases h with ⟨h1, _⟩ | ⟨g, off, cur, h1, h2, h3, _⟩
  · rw [h1] at hp; cases hp
  · rw [h1] at hp; cases hp
    exact ⟨h2, heap_lt h3⟩
theorem Stay2.cell {ao po : Option Addr} {w w' : World} (h : Stay2 ao po w w') {r j : Nat} (hr : r < w.heap.size) (ha : ∀ p : Addr, ao = some p → p.block ≠ r) (hp : ∀ p : Addr, po = some p → p.block ≠ r) : w'.cell? ⟨r, j, none⟩ = w.cell? ⟨r, j, none⟩ := by
  simp only [World.cell?, h r hr ha hp]
theorem Stay2.frozen {ao po : Option Addr} {w w' : World} (h : Stay2 ao po w w') {r j : Nat} (hr : r < w.heap.size) (ha : ∀ p : Addr, ao = some p → p.block ≠ r) (hp : ∀ p : Addr, po = some p → p.block ≠ r) : w'.frozen? ⟨r, j, none⟩ = w.frozen? ⟨r, j, none⟩ := by
  simp only [World.frozen?, h r hr ha hp]
theorem Sz.sub {a b : Rat} {i j : Nat} (ha : Sz a i) (hb : Sz b j) : Sz (a - b) (2 * i + 2 * j + 1) := by rw [Rat.sub_eq_add_neg]; exact ha.add hb.neg
theorem Sz.div {a b : Rat} {i j : Nat} (ha : Sz a i) (hb : Sz b j) (h0 : b ≠ 0) : Sz (a / b) (i + j) := by rw [Rat.div_def]; exact ha.mul (hb.inv h0)
/-- a variable for a rational, that may be written -/
def Slot3 (Z : World) (r : Nat) : Prop := (∃ n o l c p m k, Boxed3 Z r n o l c p m k) ∧ (∀ j, Z.frozen? ⟨r, j, none⟩ = false)
theorem Boxed3.lt {Z : World} {r : Nat} {n : Bool} {o p : Option Addr} {l c m k : Nat} (h : Boxed3 Z r n o l c p m k) : r < Z.heap.size := cell_lt h.1
theorem Slot3.lt {Z : World} {r : Nat} (h : Slot3 Z r) : r < Z.heap.size := by
  obtain ⟨⟨n, o, l, c, p, m, k, hb⟩, _⟩ := h; exact hb.lt
theorem Slot3.at {Z Z' : World} {r B : Nat} (h : Slot3 Z r) (hb : Below B Z Z') (hr : r < B) : Slot3 Z' r := by
  obtain ⟨⟨n, o, l, c, p, m, k, hx⟩, hf⟩ := h
  exact ⟨⟨n, o, l, c, p, m, k, hx.later hb hr⟩, fun j => (hb.frozen (p := ⟨r, j, none⟩) hr).trans (hf j)⟩
theorem Slot3.stay {ao po : Option Addr} {Z Z' : World} {r : Nat} (h : Slot3 Z r) (hs : Stay2 ao po Z Z') (ha : ∀ p : Addr, ao = some p → p.block ≠ r) (hp : ∀ p : Addr, po = some p → p.block ≠ r) : Slot3 Z' r := by
  have hr := h.lt
  obtain ⟨⟨n, o, l, c, p, m, k, hx⟩, hf⟩ := h
  exact ⟨⟨n, o, l, c, p, m, k, (hs.cell hr ha hp).trans hx.1, (hs.cell hr ha hp).trans hx.2.1, (hs.cell hr ha hp).trans hx.2.2⟩, fun j => (hs.frozen hr ha hp).trans (hf j)⟩
theorem boxed3_new {w : World} {n : Bool} {o p : Option Addr} {l c m k : Nat} : Boxed3 (w.alloc (.cells #[.bool n, .slice o l c, .slice p m k] 28)) w.heap.size n o l c p m k := ⟨by simp [go_sem], by simp [go_sem], by simp [go_sem]⟩
theorem Slot3.new {w : World} {n : Bool} {o p : Option Addr} {l c m k : Nat} : Slot3 (w.alloc (.cells #[.bool n, .slice o l c, .slice p m k] 28)) w.heap.size := ⟨⟨_, _, _, _, _, _, _, boxed3_new⟩, fun j => by simp [go_sem]⟩
theorem boxed3_put {Z : World} {r : Nat} (h : Slot3 Z r) {n : Bool} {o p : Option Addr} {l c m k : Nat} : Boxed3 (((Z.setCell ⟨r, 0, none⟩ (.bool n)).setCell ⟨r, 1, none⟩ (.slice o l c)).setCell ⟨r, 2, none⟩ (.slice p m k)) r n o l c p m k := by
  obtain ⟨⟨n', o', l', c', p', m', k', hx⟩, _⟩ := h
  exact boxed_set hx.1 hx.2.1 hx.2.2
theorem Slot3.put {Z : World} {r : Nat} (h : Slot3 Z r) {n : Bool} {o p : Option Addr} {l c m k : Nat} : Slot3 (((Z.setCell ⟨r, 0, none⟩ (.bool n)).setCell ⟨r, 1, none⟩ (.slice o l c)).setCell ⟨r, 2, none⟩ (.slice p m k)) r :=
  ⟨⟨_, _, _, _, _, _, _, boxed3_put h⟩, fun j => by rw [frozen_off, frozen_off, frozen_off]; exact h.2 j⟩
theorem boxed3_off {Z : World} {r s : Nat} {n : Bool} {o p : Option Addr} {l c m k : Nat} (h : Boxed3 Z s n o l c p m k) (hs : s ≠ r) (x y z : Value) : Boxed3 (((Z.setCell ⟨r, 0, none⟩ x).setCell ⟨r, 1, none⟩ y).setCell ⟨r, 2, none⟩ z) s n o l c p m k :=
  ⟨by rw [cell_off hs, cell_off hs, cell_off hs]; exact h.1, by rw [cell_off hs, cell_off hs, cell_off hs]; exact h.2.1, by rw [cell_off hs, cell_off hs, cell_off hs]; exact h.2.2⟩
theorem row_slot {Z : World} {r : Nat} (h : Slot3 Z r) {q : Option Addr} {a b : Nat} {zs : List Int} (hr : RowAt Z .u64 q a b zs) (x y z : Value) : RowAt (((Z.setCell ⟨r, 0, none⟩ x).setCell ⟨r, 1, none⟩ y).setCell ⟨r, 2, none⟩ z) .u64 q a b zs := by
  obtain ⟨⟨n', o', l', c', p', m', k', hx⟩, _⟩ := h
  exact row_kept3 hr hx
theorem put3_size {y : World} {r : Nat} {a b c : Value} : (((y.setCell ⟨r, 0, none⟩ a).setCell ⟨r, 1, none⟩ b).setCell ⟨r, 2, none⟩ c).heap.size = y.heap.size := by simp [World.setCell]
/-- a variable that holds a rational, where one is told -/
def VarR (Z : World) (r : Nat) (v : Option Rat) : Prop := ∃ n o l c p m k, Boxed3 Z r n o l c p m k ∧ (∀ a, v = some a → RatAt Z n o l c p m k a) ∧ ∀ j, Z.frozen? ⟨r, j, none⟩ = false
theorem VarR.slot {Z : World} {r : Nat} {v : Option Rat} (h : VarR Z r v) : Slot3 Z r := by
  obtain ⟨n, o, l, c, p, m, k, h1, _, h3⟩ := h; exact ⟨⟨_, _, _, _, _, _, _, h1⟩, h3⟩
theorem VarR.later {Z Z' : World} {r : Nat} {v : Option Rat} (h : VarR Z r v) (hb : Below Z.heap.size Z Z') : VarR Z' r v := by
  have hr := h.slot.lt
  obtain ⟨n, o, l, c, p, m, k, h1, h2, h3⟩ := h
  exact ⟨n, o, l, c, p, m, k, h1.later hb hr, fun a e => (h2 a e).later hb, fun j => (hb.frozen (p := ⟨r, j, none⟩) hr).trans (h3 j)⟩
theorem VarR.off {Z : World} {r s : Nat} {v : Option Rat} (h : VarR Z s v) (hs : s ≠ r) (hr : Slot3 Z r) (x y z : Value) : VarR (((Z.setCell ⟨r, 0, none⟩ x).setCell ⟨r, 1, none⟩ y).setCell ⟨r, 2, none⟩ z) s v := by
  obtain ⟨n, o, l, c, p, m, k, h1, h2, h3⟩ := h
  obtain ⟨⟨n', o', l', c', p', m', k', hx⟩, _⟩ := hr
  exact ⟨n, o, l, c, p, m, k, boxed3_off h1 hs _ _ _, fun a e => rat_kept (h2 a e) hx, fun j => by rw [frozen_off, frozen_off, frozen_off]; exact h3 j⟩
theorem VarR.put {Z : World} {r : Nat} {n : Bool} {o p : Option Addr} {l c m k : Nat} {a : Rat} (hr : Slot3 Z r) (hi : RatAt Z n o l c p m k a) : VarR (((Z.setCell ⟨r, 0, none⟩ (.bool n)).setCell ⟨r, 1, none⟩ (.slice o l c)).setCell ⟨r, 2, none⟩ (.slice p m k)) r (some a) := by
  have h2 := hr.put (n := n) (o := o) (l := l) (c := c) (p := p) (m := m) (k := k)
  obtain ⟨⟨n', o', l', c', p', m', k', hx⟩, hf⟩ := hr
  exact ⟨n, o, l, c, p, m, k, boxed_set hx.1 hx.2.1 hx.2.2, fun a' e => by cases e; exact rat_kept hi hx, h2.2⟩
theorem VarR.zero {w : World} : VarR (w.alloc (.cells #[.bool false, .slice none 0 0, .slice none 0 0] 28)) w.heap.size none := ⟨false, none, 0, 0, none, 0, 0, boxed3_new, fun a e => (by cases e), fun j => by simp [go_sem]⟩
theorem Boxed7.off {Z : World} {P r : Nat} {na nb : Bool} {ao po bo qo : Option Addr} {la ca lp cp lb cb lq cq : Nat} {N : Int} (h : Boxed7 Z P na nb ao po bo qo la ca lp cp lb cb lq cq N) (hp : P ≠ r) (x y z : Value) : Boxed7 (((Z.setCell ⟨r, 0, none⟩ x).setCell ⟨r, 1, none⟩ y).setCell ⟨r, 2, none⟩ z) P na nb ao po bo qo la ca lp cp lb cb lq cq N :=
  ⟨by rw [cell_off hp, cell_off hp, cell_off hp]; exact h.1, by rw [cell_off hp, cell_off hp, cell_off hp]; exact h.2.1, by rw [cell_off hp, cell_off hp, cell_off hp]; exact h.2.2.1, by rw [cell_off hp, cell_off hp, cell_off hp]; exact h.2.2.2.1, by rw [cell_off hp, cell_off hp, cell_off hp]; exact h.2.2.2.2.1, by rw [cell_off hp, cell_off hp, cell_off hp]; exact h.2.2.2.2.2.1, by rw [cell_off hp, cell_off hp, cell_off hp]; exact h.2.2.2.2.2.2⟩
/-- p, a, b and the four variables of a round -/
structure ExR (w Z : World) (P rA rB g : Nat) (na nb : Bool) (ao po bo qo a1 p1 b1 q1 : Option Addr) (la ca lp cp lb cb lq cq c1 e1 d1 f1 : Nat) (N : Int) (x d y f : List Int) (s0 s1 s2 s3 : Option Rat) : Prop where
  p : Boxed7 Z P na nb ao po bo qo la ca lp cp lb cb lq cq N
  ba : Boxed3 Z rA na a1 la c1 p1 lp e1
  bb : Boxed3 Z rB nb b1 lb d1 q1 lq f1
  ra : RowAt Z .u64 a1 la c1 x
  rd : RowAt Z .u64 p1 lp e1 d
  rb : RowAt Z .u64 b1 lb d1 y
  rf : RowAt Z .u64 q1 lq f1 f
  ja : RowAt Z .u64 ao la ca x
  jd : RowAt Z .u64 po lp cp d
  jb : RowAt Z .u64 bo lb cb y
  jf : RowAt Z .u64 qo lq cq f
  v0 : VarR Z g s0
  v1 : VarR Z (g + 1) s1
  v2 : VarR Z (g + 2) s2
  v3 : VarR Z (g + 3) s3
  lo : P < g ∧ rA < g ∧ rB < g ∧ w.heap.size ≤ g
  hi : g + 3 < Z.heap.size
  bw : Below w.heap.size w Z
theorem ExR.later {w Z Z' : World} {P rA rB g : Nat} {na nb : Bool} {ao po bo qo a1 p1 b1 q1 : Option Addr} {la ca lp cp lb cb lq cq c1 e1 d1 f1 : Nat} {N : Int} {x d y f : List Int} {s0 s1 s2 s3 : Option Rat} (h : ExR w Z P rA rB g na nb ao po bo qo a1 p1 b1 q1 la ca lp cp lb cb lq cq c1 e1 d1 f1 N x d y f s0 s1 s2 s3) (hb : Below Z.heap.size Z Z') : ExR w Z' P rA rB g na nb ao po bo qo a1 p1 b1 q1 la ca lp cp lb cb lq cq c1 e1 d1 f1 N x d y f s0 s1 s2 s3 := by
  have h1 := h.lo
  have h2 := h.hi
  exact ⟨h.p.later hb (by omega), h.ba.later hb (by omega), h.bb.later hb (by omega), h.ra.later hb, h.rd.later hb, h.rb.later hb, h.rf.later hb, h.ja.later hb, h.jd.later hb, h.jb.later hb, h.jf.later hb, h.v0.later hb, h.v1.later hb, h.v2.later hb, h.v3.later hb, h1, Nat.lt_of_lt_of_le h2 hb.size, bnext h.bw hb⟩
theorem ExR.put0 {w Z Z' : World} {P rA rB g : Nat} {na nb : Bool} {ao po bo qo a1 p1 b1 q1 : Option Addr} {la ca lp cp lb cb lq cq c1 e1 d1 f1 : Nat} {N : Int} {x d y f : List Int} {s0 s1 s2 s3 : Option Rat} {n : Bool} {o p : Option Addr} {l c m k : Nat} {v : Rat} (h : ExR w Z P rA rB g na nb ao po bo qo a1 p1 b1 q1 la ca lp cp lb cb lq cq c1 e1 d1 f1 N x d y f s0 s1 s2 s3) (hb : Below Z.heap.size Z Z') (hi : RatAt Z' n o l c p m k v) : ExR w (((Z'.setCell ⟨g, 0, none⟩ (.bool n)).setCell ⟨g, 1, none⟩ (.slice o l c)).setCell ⟨g, 2, none⟩ (.slice p m k)) P rA rB g na nb ao po bo qo a1 p1 b1 q1 la ca lp cp lb cb lq cq c1 e1 d1 f1 N x d y f (some v) s1 s2 s3 := by
  have k1 := h.later hb
  have h1 := k1.lo
  have h2 := k1.hi
  have hs := k1.v0.slot
  exact ⟨k1.p.off (by omega) _ _ _, boxed3_off k1.ba (by omega) _ _ _, boxed3_off k1.bb (by omega) _ _ _, row_slot hs k1.ra _ _ _, row_slot hs k1.rd _ _ _, row_slot hs k1.rb _ _ _, row_slot hs k1.rf _ _ _, row_slot hs k1.ja _ _ _, row_slot hs k1.jd _ _ _, row_slot hs k1.jb _ _ _, row_slot hs k1.jf _ _ _, VarR.put hs hi, k1.v1.off (by omega) hs _ _ _, k1.v2.off (by omega) hs _ _ _, k1.v3.off (by omega) hs _ _ _, h1, by rw [put3_size]; exact h2, below_store3 k1.bw (by omega) _ _ _⟩
theorem ExR.put1 {w Z Z' : World} {P rA rB g : Nat} {na nb : Bool} {ao po bo qo a1 p1 b1 q1 : Option Addr} {la ca lp cp lb cb lq cq c1 e1 d1 f1 : Nat} {N : Int} {x d y f : List Int} {s0 s1 s2 s3 : Option Rat} {n : Bool} {o p : Option Addr} {l c m k : Nat} {v : Rat} (h : ExR w Z P rA rB g na nb ao po bo qo a1 p1 b1 q1 la ca lp cp lb cb lq cq c1 e1 d1 f1 N x d y f s0 s1 s2 s3) (hb : Below Z.heap.size Z Z') (hi : RatAt Z' n o l c p m k v) : ExR w (((Z'.setCell ⟨g + 1, 0, none⟩ (.bool n)).setCell ⟨g + 1, 1, none⟩ (.slice o l c)).setCell ⟨g + 1, 2, none⟩ (.slice p m k)) P rA rB g na nb ao po bo qo a1 p1 b1 q1 la ca lp cp lb cb lq cq c1 e1 d1 f1 N x d y f s0 (some v) s2 s3 := by
  have k1 := h.later hb
  have h1 := k1.lo
  have h2 := k1.hi
  have hs := k1.v1.slot
  exact ⟨k1.p.off (by omega) _ _ _, boxed3_off k1.ba (by omega) _ _ _, boxed3_off k1.bb (by omega) _ _ _, row_slot hs k1.ra _ _ _, row_slot hs k1.rd _ _ _, row_slot hs k1.rb _ _ _, row_slot hs k1.rf _ _ _, row_slot hs k1.ja _ _ _, row_slot hs k1.jd _ _ _, row_slot hs k1.jb _ _ _, row_slot hs k1.jf _ _ _, k1.v0.off (by omega) hs _ _ _, VarR.put hs hi, k1.v2.off (by omega) hs _ _ _, k1.v3.off (by omega) hs _ _ _, h1, by rw [put3_size]; exact h2, below_store3 k1.bw (by omega) _ _ _⟩
theorem ExR.put2 {w Z Z' : World} {P rA rB g : Nat} {na nb : Bool} {ao po bo qo a1 p1 b1 q1 : Option Addr} {la ca lp cp lb cb lq cq c1 e1 d1 f1 : Nat} {N : Int} {x d y f : List Int} {s0 s1 s2 s3 : Option Rat} {n : Bool} {o p : Option Addr} {l c m k : Nat} {v : Rat} (h : ExR w Z P rA rB g na nb ao po bo qo a1 p1 b1 q1 la ca lp cp lb cb lq cq c1 e1 d1 f1 N x d y f s0 s1 s2 s3) (hb : Below Z.heap.size Z Z') (hi : RatAt Z' n o l c p m k v) : ExR w (((Z'.setCell ⟨g + 2, 0, none⟩ (.bool n)).setCell ⟨g + 2, 1, none⟩ (.slice o l c)).setCell ⟨g + 2, 2, none⟩ (.slice p m k)) P rA rB g na nb ao po bo qo a1 p1 b1 q1 la ca lp cp lb cb lq cq c1 e1 d1 f1 N x d y f s0 s1 (some v) s3 := by
  have k1 := h.later hb
  have h1 := k1.lo
  have h2 := k1.hi
  have hs := k1.v2.slot
  exact ⟨k1.p.off (by omega) _ _ _, boxed3_off k1.ba (by omega) _ _ _, boxed3_off k1.bb (by omega) _ _ _, row_slot hs k1.ra _ _ _, row_slot hs k1.rd _ _ _, row_slot hs k1.rb _ _ _, row_slot hs k1.rf _ _ _, row_slot hs k1.ja _ _ _, row_slot hs k1.jd _ _ _, row_slot hs k1.jb _ _ _, row_slot hs k1.jf _ _ _, k1.v0.off (by omega) hs _ _ _, k1.v1.off (by omega) hs _ _ _, VarR.put hs hi, k1.v3.off (by omega) hs _ _ _, h1, by rw [put3_size]; exact h2, below_store3 k1.bw (by omega) _ _ _⟩
theorem ExR.put3 {w Z Z' : World} {P rA rB g : Nat} {na nb : Bool} {ao po bo qo a1 p1 b1 q1 : Option Addr} {la ca lp cp lb cb lq cq c1 e1 d1 f1 : Nat} {N : Int} {x d y f : List Int} {s0 s1 s2 s3 : Option Rat} {n : Bool} {o p : Option Addr} {l c m k : Nat} {v : Rat} (h : ExR w Z P rA rB g na nb ao po bo qo a1 p1 b1 q1 la ca lp cp lb cb lq cq c1 e1 d1 f1 N x d y f s0 s1 s2 s3) (hb : Below Z.heap.size Z Z') (hi : RatAt Z' n o l c p m k v) : ExR w (((Z'.setCell ⟨g + 3, 0, none⟩ (.bool n)).setCell ⟨g + 3, 1, none⟩ (.slice o l c)).setCell ⟨g + 3, 2, none⟩ (.slice p m k)) P rA rB g na nb ao po bo qo a1 p1 b1 q1 la ca lp cp lb cb lq cq c1 e1 d1 f1 N x d y f s0 s1 s2 (some v) := by
  have k1 := h.later hb
  have h1 := k1.lo
  have h2 := k1.hi
  have hs := k1.v3.slot
  exact ⟨k1.p.off (by omega) _ _ _, boxed3_off k1.ba (by omega) _ _ _, boxed3_off k1.bb (by omega) _ _ _, row_slot hs k1.ra _ _ _, row_slot hs k1.rd _ _ _, row_slot hs k1.rb _ _ _, row_slot hs k1.rf _ _ _, row_slot hs k1.ja _ _ _, row_slot hs k1.jd _ _ _, row_slot hs k1.jb _ _ _, row_slot hs k1.jf _ _ _, k1.v0.off (by omega) hs _ _ _, k1.v1.off (by omega) hs _ _ _, k1.v2.off (by omega) hs _ _ _, VarR.put hs hi, h1, by rw [put3_size]; exact h2, below_store3 k1.bw (by omega) _ _ _⟩
theorem ExR.new {w Z : World} {P rA rB : Nat} {na nb : Bool} {ao po bo qo a1 p1 b1 q1 : Option Addr} {la ca lp cp lb cb lq cq c1 e1 d1 f1 : Nat} {N : Int} {x d y f : List Int} (p : Boxed7 Z P na nb ao po bo qo la ca lp cp lb cb lq cq N) (ba : Boxed3 Z rA na a1 la c1 p1 lp e1) (bb : Boxed3 Z rB nb b1 lb d1 q1 lq f1) (ra : RowAt Z .u64 a1 la c1 x) (rd : RowAt Z .u64 p1 lp e1 d) (rb : RowAt Z .u64 b1 lb d1 y) (rf : RowAt Z .u64 q1 lq f1 f) (ja : RowAt Z .u64 ao la ca x) (jd : RowAt Z .u64 po lp cp d) (jb : RowAt Z .u64 bo lb cb y) (jf : RowAt Z .u64 qo lq cq f) (hp : P < Z.heap.size) (bw : Below w.heap.size w Z) :
    ExR w ((((Z.alloc (.cells #[.bool false, .slice none 0 0, .slice none 0 0] 28)).alloc (.cells #[.bool false, .slice none 0 0, .slice none 0 0] 28)).alloc (.cells #[.bool false, .slice none 0 0, .slice none 0 0] 28)).alloc (.cells #[.bool false, .slice none 0 0, .slice none 0 0] 28)) P rA rB Z.heap.size na nb ao po bo qo a1 p1 b1 q1 la ca lp cp lb cb lq cq c1 e1 d1 f1 N x d y f none none none none := by
  have hA : ∀ Y : World, Below Y.heap.size Y (Y.alloc (.cells #[.bool false, .slice none 0 0, .slice none 0 0] 28)) := fun Y => (Below.refl _ _).alloc (Nat.le_refl _) _
  have hv : ∀ Y : World, VarR (Y.alloc (.cells #[.bool false, .slice none 0 0, .slice none 0 0] 28)) Y.heap.size none := fun Y => VarR.zero
  have h0 := hv Z
  have h1 := hv (Z.alloc (.cells #[.bool false, .slice none 0 0, .slice none 0 0] 28))
  have h2 := hv ((Z.alloc (.cells #[.bool false, .slice none 0 0, .slice none 0 0] 28)).alloc (.cells #[.bool false, .slice none 0 0, .slice none 0 0] 28))
  have h3 := hv (((Z.alloc (.cells #[.bool false, .slice none 0 0, .slice none 0 0] 28)).alloc (.cells #[.bool false, .slice none 0 0, .slice none 0 0] 28)).alloc (.cells #[.bool false, .slice none 0 0, .slice none 0 0] 28))
  have e : ∀ Y : World, (Y.alloc (.cells #[.bool false, .slice none 0 0, .slice none 0 0] 28)).heap.size = Y.heap.size + 1 := fun Y => by simp
  simp only [e] at h1 h2 h3
  have hb := bnext (bnext (bnext (hA Z) (hA _)) (hA _)) (hA _)
  refine ⟨p.later hb hp, ba.later hb ba.lt, bb.later hb bb.lt, ra.later hb, rd.later hb, rb.later hb, rf.later hb, ja.later hb, jd.later hb, jb.later hb, jf.later hb, ((h0.later (hA _)).later (hA _)).later (hA _), (h1.later (hA _)).later (hA _), h2.later (hA _), h3, ⟨hp, ba.lt, bb.lt, bw.size⟩, by simp, bnext bw hb⟩
/-- an answer in the variable r -/
structure AnsR (B : Nat) (Z : World) (r : Nat) (n : Bool) (o : Option Addr) (l c : Nat) (p : Option Addr) (m k : Nat) (a : Rat) : Prop where
  box : Boxed3 Z r n o l c p m k
  slot : Slot3 Z r
  sg : n = sgB a.num
  own : Own B Z .u64 66 o l c (mag a.num.natAbs)
  own2 : Own B Z .u64 66 p m k (mag a.den)
  pt : Parted o p
  len : l ≤ 1000
  len2 : m ≤ 1000
  off : ∀ q : Addr, o = some q → q.block ≠ r
  off2 : ∀ q : Addr, p = some q → q.block ≠ r
theorem AnsR.new {B : Nat} {y : World} {n : Bool} {o p : Option Addr} {l c m k : Nat} {a : Rat} (hs : n = sgB a.num) (ho : Own B y .u64 66 o l c (mag a.num.natAbs)) (hp : Own B y .u64 66 p m k (mag a.den)) (hpt : Parted o p) (hl : l ≤ 1000) (hl' : m ≤ 1000) : AnsR B (y.alloc (.cells #[.bool n, .slice o l c, .slice p m k] 28)) y.heap.size n o l c p m k a := by
  have hA : Below y.heap.size y (y.alloc (.cells #[.bool n, .slice o l c, .slice p m k] 28)) := (Below.refl _ _).alloc (Nat.le_refl _) _
  exact ⟨boxed3_new, Slot3.new, hs, ho.later hA, hp.later hA, hpt, hl, hl', fun q hq e => by have := (ho.lt_of3 q hq).2; omega, fun q hq e => by have := (hp.lt_of3 q hq).2; omega⟩
theorem AnsR.put {B : Nat} {y : World} {r : Nat} {n : Bool} {o p : Option Addr} {l c m k : Nat} {a : Rat} (hr : Slot3 y r) (hrB : r < B) (hs : n = sgB a.num) (ho : Own B y .u64 66 o l c (mag a.num.natAbs)) (hp : Own B y .u64 66 p m k (mag a.den)) (hpt : Parted o p) (hl : l ≤ 1000) (hl' : m ≤ 1000) : AnsR B (((y.setCell ⟨r, 0, none⟩ (.bool n)).setCell ⟨r, 1, none⟩ (.slice o l c)).setCell ⟨r, 2, none⟩ (.slice p m k)) r n o l c p m k a :=
  ⟨boxed3_put hr, hr.put, hs, ho.store3 hrB _ _ _, hp.store3 hrB _ _ _, hpt, hl, hl', fun q hq e => by have := (ho.lt_of3 q hq).1; omega, fun q hq e => by have := (hp.lt_of3 q hq).1; omega⟩
/-- likewise, above what Z0 has -/
def AnsRAt (Z0 wx : World) (r : Nat) (a : Rat) : Prop := ∃ B n o l c p m k, AnsR B wx r n o l c p m k a ∧ Z0.heap.size ≤ B ∧ B ≤ wx.heap.size ∧ Z0.heap.size ≤ r ∧ Below Z0.heap.size Z0 wx
/-- nothing was told -/
def NilRAt (Z0 wx : World) (r : Nat) : Prop := Boxed3 wx r false none 0 0 none 0 0 ∧ Slot3 wx r ∧ Z0.heap.size ≤ r ∧ Below Z0.heap.size Z0 wx
theorem ans_new {Z0 y5 : World} {n : Bool} {o p : Option Addr} {l c m k : Nat} {a : Rat} (hb : Below Z0.heap.size Z0 y5) (hs : n = sgB a.num) (ho : Own Z0.heap.size y5 .u64 66 o l c (mag a.num.natAbs)) (hp : Own Z0.heap.size y5 .u64 66 p m k (mag a.den)) (hpt : Parted o p) (hl : l ≤ 1000) (hl' : m ≤ 1000) : AnsRAt Z0 (y5.alloc (.cells #[.bool n, .slice o l c, .slice p m k] 28)) y5.heap.size a :=
  ⟨_, _, _, _, _, _, _, _, AnsR.new hs ho hp hpt hl hl', Nat.le_refl _, Nat.le_trans hb.size (by simp), hb.size, below_alloc hb (Nat.le_refl _)⟩
theorem ans_put {Z0 Y y5 : World} {r : Nat} {n : Bool} {o p : Option Addr} {l c m k : Nat} {a : Rat} (hr : Slot3 Y r) (hK : Z0.heap.size ≤ r) (h0 : Below Z0.heap.size Z0 Y) (hb : Below Y.heap.size Y y5) (hs : n = sgB a.num) (ho : Own Y.heap.size y5 .u64 66 o l c (mag a.num.natAbs)) (hp : Own Y.heap.size y5 .u64 66 p m k (mag a.den)) (hpt : Parted o p) (hl : l ≤ 1000) (hl' : m ≤ 1000) : AnsRAt Z0 (((y5.setCell ⟨r, 0, none⟩ (.bool n)).setCell ⟨r, 1, none⟩ (.slice o l c)).setCell ⟨r, 2, none⟩ (.slice p m k)) r a :=
  ⟨_, _, _, _, _, _, _, _, AnsR.put (hr.at hb hr.lt) hr.lt hs ho hp hpt hl hl', h0.size, by rw [put3_size]; exact hb.size, hK, below_store3 (bnext h0 hb) hK _ _ _⟩
theorem nil_new {Z0 y5 : World} (hb : Below Z0.heap.size Z0 y5) : NilRAt Z0 (y5.alloc (.cells #[.bool false, .slice none 0 0, .slice none 0 0] 28)) y5.heap.size := ⟨boxed3_new, Slot3.new, hb.size, below_alloc hb (Nat.le_refl _)⟩
theorem nil_put {Z0 Y y5 : World} {r : Nat} (hr : Slot3 Y r) (hK : Z0.heap.size ≤ r) (h0 : Below Z0.heap.size Z0 Y) (hb : Below Y.heap.size Y y5) : NilRAt Z0 (((y5.setCell ⟨r, 0, none⟩ (.bool false)).setCell ⟨r, 1, none⟩ (.slice none 0 0)).setCell ⟨r, 2, none⟩ (.slice none 0 0)) r :=
  ⟨boxed3_put (hr.at hb hr.lt), (hr.at hb hr.lt).put, hK, below_store3 (bnext h0 hb) hK _ _ _⟩
end Go.Proofs.YtljmbnbilmghhaaGreatDoor
