/-
  Walks: copies of intervals; what two have in common; halves. (gen/span3.py)
-/
import Derived.Test.YthjkdnlbdhhmbaaGreatDoorPQ09
import Derived.Test.YthjkdnlbdhhmbaaGreatDoorPQ11
import Derived.Test.YthjkdnlbdhhmbaaGreatDoorPQ13
import Derived.Test.YthjkdnlbdhhmbaaGreatDoorPQ18
import Derived.Test.YthjkdnlbdhhmbaaGreatDoorPQ19
import Derived.Test.YthjkdnlbdhhmbaaGreatDoorPQ21
import Derived.Test.YthjkdnlbdhhmbaaGreatDoorPQ22
import Derived.Deep.DeepCutAuto
namespace Go.Proofs.YthjkdnlbdhhmbaaGreatDoor
open Go.RowKit
set_option linter.unusedVariables false
set_option linter.unusedSimpArgs false
/-- an interval in memory of the call's own -/
def NewSp (w w' : World) (n1 n2 : Bool) (o1 p1 o2 p2 : Option Addr) (l1 c1 m1 k1 l2 c2 m2 k2 : Nat) (a b : Rat) : Prop :=
  (n1 = sgB (a).num ∧ Own w.heap.size w' .u64 60 o1 l1 c1 (mag (a).num.natAbs) ∧ Own w.heap.size w' .u64 60 p1 m1 k1 (mag (a).den) ∧ Parted o1 p1) ∧ (n2 = sgB (b).num ∧ Own w.heap.size w' .u64 60 o2 l2 c2 (mag (b).num.natAbs) ∧ Own w.heap.size w' .u64 60 p2 m2 k2 (mag (b).den) ∧ Parted o2 p2) ∧ (Parted o1 o2 ∧ Parted o1 p2 ∧ Parted p1 o2 ∧ Parted p1 p2) ∧ Below w.heap.size w w'
theorem NewSp.lo {w w' : World} {n1 n2 : Bool} {o1 p1 o2 p2 : Option Addr} {l1 c1 m1 k1 l2 c2 m2 k2 : Nat} {a b : Rat} (h : NewSp w w' n1 n2 o1 p1 o2 p2 l1 c1 m1 k1 l2 c2 m2 k2 a b) : RatAt w' n1 o1 l1 c1 p1 m1 k1 a := ⟨h.1.2.1.int h.1.1, h.1.2.2.1.row⟩
theorem NewSp.hi {w w' : World} {n1 n2 : Bool} {o1 p1 o2 p2 : Option Addr} {l1 c1 m1 k1 l2 c2 m2 k2 : Nat} {a b : Rat} (h : NewSp w w' n1 n2 o1 p1 o2 p2 l1 c1 m1 k1 l2 c2 m2 k2 a b) : RatAt w' n2 o2 l2 c2 p2 m2 k2 b := ⟨h.2.1.2.1.int h.2.1.1, h.2.1.2.2.1.row⟩
theorem Sz.max {a b : Rat} {k : Nat} (ha : Sz a k) (hb : Sz b k) : Sz (maxQ a b) k := by unfold maxQ; split <;> assumption
theorem Sz.min {a b : Rat} {k : Nat} (ha : Sz a k) (hb : Sz b k) : Sz (minQ a b) k := by unfold minQ; split <;> assumption
end Go.Proofs.YthjkdnlbdhhmbaaGreatDoor
/-
  SpanMeets: what lies in a list; facts in plain. (gen/span7.py)
-/
namespace Go.Proofs.YthjkdnlbdhhmbaaGreatDoor
open Go.RowKit
set_option linter.unusedVariables false
set_option linter.unusedSimpArgs false
/-- two intervals, a rational and a count lie in block b from o on: whatever they are -/
def ElemS (w : World) (b o : Nat) : Prop :=
  ∃ (n1 n2 n3 n4 n5 : Bool) (o1 p1 o2 p2 o3 p3 o4 p4 o5 p5 : Option Addr) (l1 c1 m1 k1 l2 c2 m2 k2 l3 c3 m3 k3 l4 c4 m4 k4 l5 c5 m5 k5 : Nat) (N : Int) (x1 d1 x2 d2 x3 d3 x4 d4 x5 d5 : List Int), (∀ j v, [.bool n1, .slice o1 l1 c1, .slice p1 m1 k1, .bool n2, .slice o2 l2 c2, .slice p2 m2 k2, .bool n3, .slice o3 l3 c3, .slice p3 m3 k3, .bool n4, .slice o4 l4 c4, .slice p4 m4 k4, .bool n5, .slice o5 l5 c5, .slice p5 m5 k5, .int .i64 N][j]? = some v → w.cell? ⟨b, o + j, none⟩ = some v) ∧ (RowAt w .u64 o1 l1 c1 x1 ∧ Wd 18446744073709551616 x1 ∧ RowAt w .u64 p1 m1 k1 d1 ∧ Wd 18446744073709551616 d1) ∧ (RowAt w .u64 o2 l2 c2 x2 ∧ Wd 18446744073709551616 x2 ∧ RowAt w .u64 p2 m2 k2 d2 ∧ Wd 18446744073709551616 d2) ∧ (RowAt w .u64 o3 l3 c3 x3 ∧ Wd 18446744073709551616 x3 ∧ RowAt w .u64 p3 m3 k3 d3 ∧ Wd 18446744073709551616 d3) ∧ (RowAt w .u64 o4 l4 c4 x4 ∧ Wd 18446744073709551616 x4 ∧ RowAt w .u64 p4 m4 k4 d4 ∧ Wd 18446744073709551616 d4) ∧ (RowAt w .u64 o5 l5 c5 x5 ∧ Wd 18446744073709551616 x5 ∧ RowAt w .u64 p5 m5 k5 d5 ∧ Wd 18446744073709551616 d5)
theorem ElemS.later {w w' : World} {b o : Nat} (h : ElemS w b o) (hb : Below w.heap.size w w') (hlt : b < w.heap.size) : ElemS w' b o := by
  obtain ⟨n1, n2, n3, n4, n5, o1, p1, o2, p2, o3, p3, o4, p4, o5, p5, l1, c1, m1, k1, l2, c2, m2, k2, l3, c3, m3, k3, l4, c4, m4, k4, l5, c5, m5, k5, N, x1, d1, x2, d2, x3, d3, x4, d4, x5, d5, hc, ⟨r1, v1, s1, t1⟩, ⟨r2, v2, s2, t2⟩, ⟨r3, v3, s3, t3⟩, ⟨r4, v4, s4, t4⟩, ⟨r5, v5, s5, t5⟩⟩ := h
  exact ⟨n1, n2, n3, n4, n5, o1, p1, o2, p2, o3, p3, o4, p4, o5, p5, l1, c1, m1, k1, l2, c2, m2, k2, l3, c3, m3, k3, l4, c4, m4, k4, l5, c5, m5, k5, N, x1, d1, x2, d2, x3, d3, x4, d4, x5, d5, fun j v hj => (hb.cell (p := ⟨b, o + j, none⟩) hlt).trans (hc j v hj), ⟨r1.later hb, v1, s1.later hb, t1⟩, ⟨r2.later hb, v2, s2.later hb, t2⟩, ⟨r3.later hb, v3, s3.later hb, t3⟩, ⟨r4.later hb, v4, s4.later hb, t4⟩, ⟨r5.later hb, v5, s5.later hb, t5⟩⟩
theorem ElemS.elim {w : World} {b o : Nat} {P : Prop} (h : ElemS w b o) (f : ∀ (n1 n2 n3 n4 n5 : Bool) (o1 p1 o2 p2 o3 p3 o4 p4 o5 p5 : Option Addr) (l1 c1 m1 k1 l2 c2 m2 k2 l3 c3 m3 k3 l4 c4 m4 k4 l5 c5 m5 k5 : Nat) (N : Int) (x1 d1 x2 d2 x3 d3 x4 d4 x5 d5 : List Int), (∀ j v, [.bool n1, .slice o1 l1 c1, .slice p1 m1 k1, .bool n2, .slice o2 l2 c2, .slice p2 m2 k2, .bool n3, .slice o3 l3 c3, .slice p3 m3 k3, .bool n4, .slice o4 l4 c4, .slice p4 m4 k4, .bool n5, .slice o5 l5 c5, .slice p5 m5 k5, .int .i64 N][j]? = some v → w.cell? ⟨b, o + j, none⟩ = some v) → ((RowAt w .u64 o1 l1 c1 x1 ∧ Wd 18446744073709551616 x1 ∧ RowAt w .u64 p1 m1 k1 d1 ∧ Wd 18446744073709551616 d1) ∧ (RowAt w .u64 o2 l2 c2 x2 ∧ Wd 18446744073709551616 x2 ∧ RowAt w .u64 p2 m2 k2 d2 ∧ Wd 18446744073709551616 d2) ∧ (RowAt w .u64 o3 l3 c3 x3 ∧ Wd 18446744073709551616 x3 ∧ RowAt w .u64 p3 m3 k3 d3 ∧ Wd 18446744073709551616 d3) ∧ (RowAt w .u64 o4 l4 c4 x4 ∧ Wd 18446744073709551616 x4 ∧ RowAt w .u64 p4 m4 k4 d4 ∧ Wd 18446744073709551616 d4) ∧ (RowAt w .u64 o5 l5 c5 x5 ∧ Wd 18446744073709551616 x5 ∧ RowAt w .u64 p5 m5 k5 d5 ∧ Wd 18446744073709551616 d5)) → P) : P := by
  obtain ⟨n1, n2, n3, n4, n5, o1, p1, o2, p2, o3, p3, o4, p4, o5, p5, l1, c1, m1, k1, l2, c2, m2, k2, l3, c3, m3, k3, l4, c4, m4, k4, l5, c5, m5, k5, N, x1, d1, x2, d2, x3, d3, x4, d4, x5, d5, hc, hr⟩ := h
  exact f n1 n2 n3 n4 n5 o1 p1 o2 p2 o3 p3 o4 p4 o5 p5 l1 c1 m1 k1 l2 c2 m2 k2 l3 c3 m3 k3 l4 c4 m4 k4 l5 c5 m5 k5 N x1 d1 x2 d2 x3 d3 x4 d4 x5 d5 hc hr
/-- is v in it? -/
def hasQ (a b v : Rat) : Bool := decide (cmpQ a v ≤ 0) && decide (cmpQ v b ≤ 0)
theorem cmpQ_le {a b : Rat} : cmpQ a b ≤ 0 ↔ a ≤ b := by
  show cmpI _ _ ≤ 0 ↔ _
  rw [Rat.le_iff]
  unfold cmpI
  split
  · constructor
    · intro _; omega
    · intro _; omega
  · split
    · constructor
      · intro h; omega
      · intro h; omega
    · constructor
      · intro _; omega
      · intro _; omega
theorem hasQ_iff {a b v : Rat} : hasQ a b v = true ↔ a ≤ v ∧ v ≤ b := by
  unfold hasQ
  rw [Bool.and_eq_true, decide_eq_true_iff, decide_eq_true_iff, cmpQ_le, cmpQ_le]
end Go.Proofs.YthjkdnlbdhhmbaaGreatDoor
/-
  Walks: powers of any length; what is refused of shifts, powers, roots; the page's Left, Pow.
-/
namespace Go.Proofs.YthjkdnlbdhhmbaaGreatDoor
open Go.RowKit Go.Shelf
set_option linter.unusedVariables false
set_option linter.unusedSimpArgs false
/-- a variable that holds a number -/
def XVar (Z : World) (r : Nat) (v : Int) : Prop := ∃ n o l c, Boxed Z r n o l c ∧ IntAt Z n o l c v ∧ ∀ j, Z.frozen? ⟨r, j, none⟩ = false
theorem XVar.later {Z Z' : World} {r : Nat} {v : Int} (h : XVar Z r v) (hb : Below Z.heap.size Z Z') : XVar Z' r v := by
  obtain ⟨n, o, l, c, h1, h2, h4⟩ := h
  have hr : r < Z.heap.size := cell_lt h1.1
  exact ⟨n, o, l, c, h1.later hb hr, h2.later hb, fun j => (hb.frozen (p := ⟨r, j, none⟩) hr).trans (h4 j)⟩
/-- a handed-in number, an answer to come, a variable g with x -/
structure RPow (w Z : World) (g : Nat) (neg : Bool) (ao : Option Addr) (len cap : Nat) (v x : Int) : Prop where
  ba : Boxed Z w.heap.size neg ao len cap
  ia : IntAt Z neg ao len cap v
  fr : Fresh Z (w.heap.size + 1)
  vx : XVar Z g x
  gw : w.heap.size + 2 ≤ g
  gz : g < Z.heap.size
  bw : Below w.heap.size w Z
theorem RPow.later {w Z Z' : World} {g : Nat} {neg : Bool} {ao : Option Addr} {len cap : Nat} {v x : Int} (h : RPow w Z g neg ao len cap v x) (hb : Below Z.heap.size Z Z') : RPow w Z' g neg ao len cap v x := by
  have h1 := h.gw
  have h2 := h.gz
  exact ⟨h.ba.later hb (by omega), h.ia.later hb, h.fr.later hb (by omega), h.vx.later hb, h1, Nat.lt_of_lt_of_le h2 hb.size, bnext h.bw hb⟩
theorem RPow.put {w Z Z' : World} {g : Nat} {neg n : Bool} {ao o : Option Addr} {len cap l c : Nat} {v x y : Int} (h : RPow w Z g neg ao len cap v x) (hb : Below Z.heap.size Z Z') (hi : IntAt Z' n o l c y) : RPow w ((Z'.setCell ⟨g, 0, none⟩ (.bool n)).setCell ⟨g, 1, none⟩ (.slice o l c)) g neg ao len cap v y := by
  have k := h.later hb
  have h1 := k.gw
  have h2 := k.gz
  obtain ⟨n', o', l', c', hx, _, hf⟩ := k.vx
  exact ⟨boxed_far k.ba (by omega) _ _, ⟨k.ia.sg, k.ia.row.boxed hx _ _⟩, fresh_far k.fr (by omega) _ _, ⟨_, _, _, _, boxed_new hx, ⟨hi.sg, hi.row.boxed hx _ _⟩, fun j => by rw [frozen_far, frozen_far]; exact hf j⟩, h1, by simpa [World.setCell] using h2, below_store k.bw (by omega) _ _⟩
theorem RPow.first {w W w1 : World} {neg n : Bool} {ao o : Option Addr} {len cap l c : Nat} {v x : Int} (hT : One2 w W neg ao len cap) (hx : IntAt W neg ao len cap v) (hb : Below W.heap.size W w1) (hi : IntAt w1 n o l c x) : RPow w (w1.alloc (.cells #[.bool n, .slice o l c] 28)) w1.heap.size neg ao len cap v x := by
  have hA : Below w1.heap.size w1 (w1.alloc (.cells #[.bool n, .slice o l c] 28)) := (Below.refl _ _).alloc (Nat.le_refl _) _
  have hs := hT.size
  have hz := hb.size
  have hWA := bnext hb hA
  exact ⟨hT.a.later hWA (by omega), hx.later hWA, hT.r.later hWA (by omega), ⟨n, o, l, c, ⟨by simp [go_sem], by simp [go_sem]⟩, hi.later hA, fun j => by simp [go_sem]⟩, by omega, by simp, bnext hT.below hWA⟩
theorem RPow.last {w Z : World} {g : Nat} {neg n : Bool} {ao o : Option Addr} {len cap l c : Nat} {v x : Int} (h : RPow w Z g neg ao len cap v x) (hb : Boxed Z g n o l c) (hi : IntAt Z n o l c x) (u1 u2 : Value) : RefInt w ((Z.setCell ⟨w.heap.size + 1, 0, none⟩ u1).setCell ⟨w.heap.size + 1, 1, none⟩ u2) (.returned (.agg #[.bool n, .slice o l c])) x :=
  ⟨_, _, _, _, rfl, ⟨hi.sg, hi.row.kept h.fr _ _⟩, below_store h.bw (by omega) _ _⟩
end Go.Proofs.YthjkdnlbdhhmbaaGreatDoor
/-
  What lies in sums, products and powers of intervals: facts in plain.
-/
namespace Go.Proofs.YthjkdnlbdhhmbaaGreatDoor
open Go.RowKit
set_option linter.unusedVariables false
set_option linter.unusedSimpArgs false
theorem addQ_le {a b c d : Rat} (h1 : a ≤ b) (h2 : c ≤ d) : a + c ≤ b + d := Rat.le_trans (Rat.add_le_add_right.2 h1) (Rat.add_le_add_left.2 h2)
theorem mulQ_anti {a b c : Rat} (h : a ≤ b) (hc : c ≤ 0) : b * c ≤ a * c := by
  have h0 : (0 : Rat) ≤ -c := by
    have := Rat.neg_le_neg hc
    rwa [Rat.neg_zero] at this
  have h1 := Rat.mul_le_mul_of_nonneg_right h h0
  rw [Rat.mul_neg, Rat.mul_neg] at h1
  have h2 := Rat.neg_le_neg h1
  rwa [Rat.neg_neg, Rat.neg_neg] at h2
theorem le_mulQ {a b x y c : Rat} (h1 : a ≤ x) (h2 : x ≤ b) (ha : c ≤ a * y) (hb : c ≤ b * y) : c ≤ x * y := by
  rcases Rat.le_total (a := 0) (b := y) with h | h
  · exact Rat.le_trans ha (Rat.mul_le_mul_of_nonneg_right h1 h)
  · exact Rat.le_trans hb (mulQ_anti h2 h)
theorem mulQ_le {a b x y c : Rat} (h1 : a ≤ x) (h2 : x ≤ b) (ha : a * y ≤ c) (hb : b * y ≤ c) : x * y ≤ c := by
  rcases Rat.le_total (a := 0) (b := y) with h | h
  · exact Rat.le_trans (Rat.mul_le_mul_of_nonneg_right h2 h) hb
  · exact Rat.le_trans (mulQ_anti h1 h) ha
theorem hasQ_self {a b : Rat} (h : cmpQ a b ≤ 0) : hasQ a b a = true ∧ hasQ a b b = true := by
  rw [hasQ_iff, hasQ_iff]
  exact ⟨⟨Rat.le_refl, cmpQ_le.1 h⟩, cmpQ_le.1 h, Rat.le_refl⟩
end Go.Proofs.YthjkdnlbdhhmbaaGreatDoor
/-
  Horner's rule over an interval with its ends over one denominator: in plain.
-/
namespace Go.Proofs.YthjkdnlbdhhmbaaGreatDoor
open Go.RowKit
set_option linter.unusedVariables false
set_option linter.unusedSimpArgs false
/-- the four products of ends -/
def exts (a b lo hi : Int) : Nat → Int := fun k => dig [a * lo, a * hi, b * lo, b * hi] k
def spanI : List Int → Int → Int → Int → Int × Int
  | [], _, _, _ => (0, 0)
  | c :: l, lo, hi, d => (loI (exts (spanI l lo hi d).1 (spanI l lo hi d).2 lo hi) 4 + c * d ^ l.length, hiI (exts (spanI l lo hi d).1 (spanI l lo hi d).2 lo hi) 4 + c * d ^ l.length)
theorem spanI_drop (p : List Int) (lo hi d : Int) (j : Nat) (h : j < p.length) : spanI (p.drop j) lo hi d = (loI (exts (spanI (p.drop (j + 1)) lo hi d).1 (spanI (p.drop (j + 1)) lo hi d).2 lo hi) 4 + dig p j * d ^ (p.length - (j + 1)), hiI (exts (spanI (p.drop (j + 1)) lo hi d).1 (spanI (p.drop (j + 1)) lo hi d).2 lo hi) 4 + dig p j * d ^ (p.length - (j + 1))) := by
  rw [List.drop_eq_getElem_cons h]
  show (_ + p[j] * d ^ (p.drop (j + 1)).length, _ + p[j] * d ^ (p.drop (j + 1)).length) = _
  rw [List.length_drop]
  have e : dig p j = p[j] := by unfold dig; rw [List.getD_eq_getElem?_getD, List.getElem?_eq_getElem h]; rfl
  rw [e]
theorem loI_le {x : Nat → Int} : ∀ (k i : Nat), i < k → loI x k ≤ x i
  | k + 1, i, h => by
    show (if x k < loI x k then x k else loI x k) ≤ x i
    by_cases e : i = k
    · subst e; split <;> omega
    · have := loI_le (x := x) k i (by omega)
      split <;> omega
theorem le_hiI {x : Nat → Int} : ∀ (k i : Nat), i < k → x i ≤ hiI x k
  | k + 1, i, h => by
    show x i ≤ (if hiI x k < x k then x k else hiI x k)
    by_cases e : i = k
    · subst e; split <;> omega
    · have := le_hiI (x := x) k i (by omega)
      split <;> omega
theorem loI_mem {x : Nat → Int} : ∀ k, k ≤ 4 → ∃ i, i < 4 ∧ loI x k = x i
  | 0, _ => ⟨0, by decide, rfl⟩
  | k + 1, h => by
    show ∃ i, i < 4 ∧ (if x k < loI x k then x k else loI x k) = x i
    split
    · exact ⟨k, by omega, rfl⟩
    · exact loI_mem k (by omega)
theorem hiI_mem {x : Nat → Int} : ∀ k, k ≤ 4 → ∃ i, i < 4 ∧ hiI x k = x i
  | 0, _ => ⟨0, by decide, rfl⟩
  | k + 1, h => by
    show ∃ i, i < 4 ∧ (if hiI x k < x k then x k else hiI x k) = x i
    split
    · exact ⟨k, by omega, rfl⟩
    · exact hiI_mem k (by omega)
theorem exts_lim {a b lo hi : Int} {K : Nat} (ha : lim a ≤ K) (hb : lim b ≤ K) (hlo : lim lo ≤ 4) (hhi : lim hi ≤ 4) : ∀ i, i < 4 → lim (exts a b lo hi i) ≤ K + 4 := fun i hi' => by
  have h1 := lim_mul a lo
  have h2 := lim_mul a hi
  have h3 := lim_mul b lo
  have h4 := lim_mul b hi
  match i, hi' with
  | 0, _ => show lim (a * lo) ≤ _; omega
  | 1, _ => show lim (a * hi) ≤ _; omega
  | 2, _ => show lim (b * lo) ≤ _; omega
  | 3, _ => show lim (b * hi) ≤ _; omega
theorem lim_pow4 (d : Int) (m : Nat) (h : lim d ≤ 4) : lim (d ^ m) ≤ 4 * m + 1 := by
  induction m with
  | zero => rw [Int.pow_zero]; decide
  | succ m ih => rw [Int.pow_succ]; have := lim_mul (d ^ m) d; omega
theorem spanI_lim (A N : Nat) (lo hi d : Int) (hlo : lim lo ≤ 4) (hhi : lim hi ≤ 4) (hd : lim d ≤ 4) : ∀ l : List Int, Lim A l → l.length ≤ N → lim (spanI l lo hi d).1 ≤ l.length * (A + 4 * N + 9) ∧ lim (spanI l lo hi d).2 ≤ l.length * (A + 4 * N + 9) := by
  intro l
  induction l with
  | nil => intro _ _; exact ⟨by show lim 0 ≤ _; rw [lim_zero]; omega, by show lim 0 ≤ _; rw [lim_zero]; omega⟩
  | cons c l ih =>
    intro hA hN
    have h1 := ih (fun t => by have := hA (t + 1); rw [dig_cons] at this; exact this) (by simp at hN; omega)
    have h2 : lim c ≤ A := by have := hA 0; simpa [dig] using this
    have h4 := lim_mul c (d ^ l.length)
    have h5 := lim_pow4 d l.length hd
    have he := exts_lim h1.1 h1.2 hlo hhi
    obtain ⟨i, hi1, e1⟩ := loI_mem (x := exts (spanI l lo hi d).1 (spanI l lo hi d).2 lo hi) 4 (by omega)
    obtain ⟨j, hj1, e2⟩ := hiI_mem (x := exts (spanI l lo hi d).1 (spanI l lo hi d).2 lo hi) 4 (by omega)
    have h6 := lim_add (loI (exts (spanI l lo hi d).1 (spanI l lo hi d).2 lo hi) 4) (c * d ^ l.length)
    have h7 := lim_add (hiI (exts (spanI l lo hi d).1 (spanI l lo hi d).2 lo hi) 4) (c * d ^ l.length)
    have h8 := he i hi1
    have h9 := he j hj1
    rw [← e1] at h8
    rw [← e2] at h9
    rw [List.length_cons] at hN ⊢
    rw [Nat.succ_mul]
    exact ⟨by show lim (loI _ 4 + c * d ^ l.length) ≤ _; omega, by show lim (hiI _ 4 + c * d ^ l.length) ≤ _; omega⟩
/-- Horner's rule at a rational over one denominator -/
def homoQ : List Int → Rat → Int → Rat
  | [], _, _ => 0
  | c :: l, y, d => homoQ l y d * y + (c : Rat) * (d : Rat) ^ l.length
theorem homoQ_val (l : List Int) (y : Rat) (d : Int) (x : Rat) (hx : x * (d : Rat) = y) : homoQ l y d * (d : Rat) = evQ l x * (d : Rat) ^ l.length := by
  induction l with
  | nil => simp [homoQ, evQ, Rat.zero_mul]
  | cons c l ih =>
    have e1 : homoQ (c :: l) y d = homoQ l y d * y + (c : Rat) * (d : Rat) ^ l.length := rfl
    have e2 : evQ (c :: l) x = (c : Rat) + x * evQ l x := rfl
    rw [e1, e2, List.length_cons, Rat.pow_succ, Rat.add_mul, Rat.add_mul, ← hx]
    have e3 : homoQ l (x * (d : Rat)) d * (x * (d : Rat)) * (d : Rat) = (homoQ l (x * (d : Rat)) d * (d : Rat)) * (x * (d : Rat)) := by grind
    rw [e3, hx, ih]
    grind
theorem cast_leQ {a b : Int} : (a : Rat) ≤ (b : Rat) ↔ a ≤ b := by exact_mod_cast Iff.rfl
theorem homoQ_in (l : List Int) (lo hi d : Int) (y : Rat) (h1 : (lo : Rat) ≤ y) (h2 : y ≤ (hi : Rat)) : ((spanI l lo hi d).1 : Rat) ≤ homoQ l y d ∧ homoQ l y d ≤ ((spanI l lo hi d).2 : Rat) := by
  induction l with
  | nil => exact ⟨Rat.le_refl, Rat.le_refl⟩
  | cons c l ih =>
    obtain ⟨a, ha⟩ : ∃ a, a = (spanI l lo hi d).1 := ⟨_, rfl⟩
    obtain ⟨b, hb⟩ : ∃ b, b = (spanI l lo hi d).2 := ⟨_, rfl⟩
    have e1 : (spanI (c :: l) lo hi d).1 = loI (exts a b lo hi) 4 + c * d ^ l.length := by rw [ha, hb]; rfl
    have e2 : (spanI (c :: l) lo hi d).2 = hiI (exts a b lo hi) 4 + c * d ^ l.length := by rw [ha, hb]; rfl
    rw [← ha, ← hb] at ih
    have l0 : ((loI (exts a b lo hi) 4 : Int) : Rat) ≤ (a : Rat) * (lo : Rat) := by rw [← Rat.intCast_mul]; exact cast_leQ.2 (loI_le (x := exts a b lo hi) 4 0 (by decide))
    have l1 : ((loI (exts a b lo hi) 4 : Int) : Rat) ≤ (a : Rat) * (hi : Rat) := by rw [← Rat.intCast_mul]; exact cast_leQ.2 (loI_le (x := exts a b lo hi) 4 1 (by decide))
    have l2 : ((loI (exts a b lo hi) 4 : Int) : Rat) ≤ (b : Rat) * (lo : Rat) := by rw [← Rat.intCast_mul]; exact cast_leQ.2 (loI_le (x := exts a b lo hi) 4 2 (by decide))
    have l3 : ((loI (exts a b lo hi) 4 : Int) : Rat) ≤ (b : Rat) * (hi : Rat) := by rw [← Rat.intCast_mul]; exact cast_leQ.2 (loI_le (x := exts a b lo hi) 4 3 (by decide))
    have g0 : (a : Rat) * (lo : Rat) ≤ ((hiI (exts a b lo hi) 4 : Int) : Rat) := by rw [← Rat.intCast_mul]; exact cast_leQ.2 (le_hiI (x := exts a b lo hi) 4 0 (by decide))
    have g1 : (a : Rat) * (hi : Rat) ≤ ((hiI (exts a b lo hi) 4 : Int) : Rat) := by rw [← Rat.intCast_mul]; exact cast_leQ.2 (le_hiI (x := exts a b lo hi) 4 1 (by decide))
    have g2 : (b : Rat) * (lo : Rat) ≤ ((hiI (exts a b lo hi) 4 : Int) : Rat) := by rw [← Rat.intCast_mul]; exact cast_leQ.2 (le_hiI (x := exts a b lo hi) 4 2 (by decide))
    have g3 : (b : Rat) * (hi : Rat) ≤ ((hiI (exts a b lo hi) 4 : Int) : Rat) := by rw [← Rat.intCast_mul]; exact cast_leQ.2 (le_hiI (x := exts a b lo hi) 4 3 (by decide))
    rw [Rat.mul_comm] at l0 l1 l2 l3 g0 g1 g2 g3
    have e3 : homoQ (c :: l) y d = homoQ l y d * y + ((c * d ^ l.length : Int) : Rat) := by
      rw [Rat.intCast_mul, Rat.intCast_pow]; rfl
    rw [e1, e2, e3, Rat.intCast_add, Rat.intCast_add]
    refine ⟨Rat.add_le_add_right.2 (le_mulQ ih.1 ih.2 ?_ ?_), Rat.add_le_add_right.2 (mulQ_le ih.1 ih.2 ?_ ?_)⟩
    · rw [Rat.mul_comm]; exact le_mulQ h1 h2 l0 l1
    · rw [Rat.mul_comm]; exact le_mulQ h1 h2 l2 l3
    · rw [Rat.mul_comm]; exact mulQ_le h1 h2 g0 g1
    · rw [Rat.mul_comm]; exact mulQ_le h1 h2 g2 g3
end Go.Proofs.YthjkdnlbdhhmbaaGreatDoor
/-
  Walks: the page's sums, products, quotients of rationals. (gen/rpage2.py)
-/
namespace Go.Proofs.YthjkdnlbdhhmbaaGreatDoor
open Go.RowKit
set_option linter.unusedVariables false
set_option linter.unusedSimpArgs false
set_option maxRecDepth 100000 in
set_option maxHeartbeats 4000000 in
theorem qden_any (na : Bool) (ao po : Option Addr) (la ca lp cp : Nat) (w : World) (hl : lp ≤ 1073741824) :
    Calls Tryz.prog 50 #[.agg #[.bool na, .slice ao la ca, .slice po lp cp]] w fun e w' => e = .returned (.agg #[.bool false, .slice po lp cp]) ∧ Below w.heap.size w w' := by
  obtain ⟨W, hW, hb, hsz, p0, p1, p2, g5, g3, g4⟩ : ∃ W, W = (w.alloc (.cells #[.bool na, .slice ao la ca, .slice po lp cp] 30)).alloc (.cells #[.bool false, .slice none 0 0] 28) ∧ Below w.heap.size w W ∧ W.heap.size = w.heap.size + 2 ∧ W.cell? ⟨w.heap.size, 0, none⟩ = some (.bool na) ∧ W.cell? ⟨w.heap.size, 1, none⟩ = some (.slice ao la ca) ∧ W.cell? ⟨w.heap.size, 2, none⟩ = some (.slice po lp cp) ∧ Fresh W (w.heap.size + 1) :=
    ⟨_, rfl, ((Below.refl _ _).alloc (Nat.le_refl _) _).alloc (by simp) _, by simp, by simp [go_sem], by simp [go_sem], by simp [go_sem], ⟨fun j => by simp [go_sem], by simp [go_sem], by simp [go_sem]⟩⟩
  have HF : Hid (Fresh W (w.heap.size + 1)) := ⟨g5, g3, g4⟩
  have hcon : Calls Tryz.prog 65 #[.bool false, .slice po lp cp] W fun e w' => e = .returned (.agg #[.bool false, .slice po lp cp]) ∧ Below W.heap.size W w' := made_any false po lp cp W (by omega)
  clear p0 p1 p2 g5 g3 g4
  go_enter Tryz.func50, Tryz.ntmps50
  go_wp2_with (go_at_call 65; rw [← hW]; refine hcon.mono ?_; rintro e w1 ⟨rfl, hb1⟩; obtain ⟨g5, g3, g4⟩ := HF.out.later hb1 (by omega))
  exact bodyPost_ret (v := .agg #[.bool false, .slice po lp cp]) (by simp [results, Tryz.results50, go_sem, g3, g4]) rfl
    ⟨rfl, below_store (bnext hb hb1) (by omega) _ _⟩
theorem made_sign {v : Int} {g l : Nat} {na : Bool} (hg : 0 < g) (hd : (g : Int) ∣ v) (hs : na = sgB v) (hl : l = (mag (v / (g : Int)).natAbs).length) : (na && decide (0 < l)) = sgB (v / (g : Int)) := by
  obtain ⟨k, rfl⟩ := hd
  have e : (g : Int) * k / (g : Int) = k := Int.mul_ediv_cancel_left _ (by omega)
  rw [e] at hl ⊢
  subst hs
  unfold sgB
  rcases Int.lt_trichotomy k 0 with h | h | h
  · have h1 : (g : Int) * k < 0 := Int.mul_neg_of_pos_of_neg (by omega) h
    have h2 : 0 < l := by rw [hl]; exact mag_len_pos.2 (by omega)
    rw [decide_eq_true h1, decide_eq_true h2, decide_eq_true h]; rfl
  · subst h; simp
  · have h1 : ¬ (g : Int) * k < 0 := by have := Int.mul_pos (show (0 : Int) < g by omega) h; omega
    rw [decide_eq_false h1, decide_eq_false (show ¬ k < 0 by omega)]; rfl
set_option maxRecDepth 100000 in
set_option maxHeartbeats 4000000 in
theorem qmake_any (na : Bool) (ao do' : Option Addr) (la ca ld cd : Nat) (v : Int) (d : Nat) (w : World) (hx : IntAt w na ao la ca v) (hy : RowAt w .u64 do' ld cd (mag d)) (h0 : d ≠ 0) (hl : la ≤ 16777216) (hl' : ld ≤ 16777216) (r : Rat) (hr : r = Rat.normalize v d h0) :
    Calls Tryz.prog 61 #[.agg #[.bool na, .slice ao la ca], .slice do' ld cd] w fun e w' => SomeR w w' e r := by
  obtain ⟨W, hT⟩ := IR2.mk' w na ao la ca
  have hsz := hT.size
  obtain ⟨g, hg⟩ : ∃ g, Nat.gcd v.natAbs d = g := ⟨_, rfl⟩
  have hg0 : 0 < g := by rw [← hg]; exact Nat.gcd_pos_of_pos_right _ (by omega)
  have HD : Hid ((g : Int) ∣ v) := hg ▸ gcd_dvd_abs v d
  have HE : Hid (r.num = v / (g : Int) ∧ r.den = d / g ∧ (v / (g : Int)).natAbs = v.natAbs / g) := by
    have h1 := rmake_parts (n := v) h0
    rw [hg, ← hr] at h1
    exact ⟨h1.1, h1.2, idiv_abs HD.out⟩
  have HX : Hid (IntAt W na ao la ca v ∧ RowAt W .u64 do' ld cd (mag d)) := ⟨hx.later hT.below, hy.later hT.below⟩
  have hgcd : Calls Tryz.prog 25 #[.slice ao la ca, .slice do' ld cd] W fun e w' => ∃ go lg cg, e = .returned (.slice go lg cg) ∧ RowAt w' .u64 go lg cg (mag g) ∧ lg ≤ 16777216 ∧ Below W.heap.size W w' := hg ▸ ngcd_any ao do' la ca ld cd v.natAbs d W HX.out.1.row HX.out.2 hl hl'
  clear hx hy hr hg
  go_enter Tryz.func61, Tryz.ntmps61
  go_wp2_with (first
    | (go_at_call 25; rw [← hT.eq]; refine hgcd.mono ?_; rintro e w1 ⟨go, lg, cg, rfl, hg1, hlg, hb1⟩; obtain ⟨p0, p1⟩ := hT.a.later hb1 (by omega); have H1 : Hid (RowAt w1 .u64 go lg cg (mag g)) := hg1; clear hg1)
    | (go_at_call 47; have _t := H2; refine (ndivide_any do' go ld cd lg cg d g _ (HX.out.2.later hb2) (H2.out.1) hl' hlg hg0).mono ?_; rintro e w3 ⟨ko, lk, ck, ro, lr, cr, rfl, hk3, _, hb3'⟩; have hb3 := bnext hb2 hb3'; have H3 : Hid (RowAt w3 .u64 mo lm cm (mag (v / (g : Int)).natAbs) ∧ RowAt w3 .u64 ko lk ck (mag r.den)) := ⟨H2.out.2.later hb3', (by rw [HE.out.2.1]; exact hk3)⟩; clear hk3 hb3' p0 p1; obtain ⟨p0, p1⟩ := hT.a.later hb3 (by omega))
    | (go_at_call 47; refine (ndivide_any ao go la ca lg cg v.natAbs g _ (HX.out.1.row.later hb1) H1.out hl hlg hg0).mono ?_; rintro e w2 ⟨mo, lm, cm, ro2, lr2, cr2, rfl, hm2, _, hb2'⟩; have hb2 := bnext hb1 hb2'; have H2 : Hid (RowAt w2 .u64 go lg cg (mag g) ∧ RowAt w2 .u64 mo lm cm (mag (v / (g : Int)).natAbs)) := ⟨H1.out.later hb2', (by rw [HE.out.2.2]; exact hm2)⟩; have hlm : lm ≤ 16777216 := (by rw [hm2.hlen]; have q1 := div_len v.natAbs g; have q2 := HX.out.1.row.hlen; omega); clear hm2 hb2' p0 p1; obtain ⟨p0, p1⟩ := hT.a.later hb2 (by omega))
    | (go_at_call 65; refine (made_any na mo lm cm _ (by omega)).mono ?_; rintro e w4 ⟨rfl, hb4'⟩; have H4 : Hid (RowAt w4 .u64 mo lm cm (mag (v / (g : Int)).natAbs) ∧ RowAt w4 .u64 ko lk ck (mag r.den) ∧ Below W.heap.size W w4 ∧ (na && decide (0 < lm)) = sgB (v / (g : Int))) := ⟨H3.out.1.later hb4', H3.out.2.later hb4', bnext hb3 hb4', made_sign hg0 HD.out HX.out.1.sg H3.out.1.hlen⟩; clear hb4' p0 p1; obtain ⟨k5, k2, k3, k4⟩ := hT.r.later H4.out.2.2.1 (by omega); obtain ⟨sg, hsg⟩ : ∃ sg, (na && decide (0 < lm)) = sg := ⟨_, rfl⟩; have HSG : Hid (sg = sgB (v / (g : Int))) := hsg.symm.trans H4.out.2.2.2; rw [hsg]; clear hsg))
  exact bodyPost_ret (v := .agg #[.bool sg, .slice mo lm cm, .slice ko lk ck]) (by simp [results, Tryz.results61, go_sem, k2, k3, k4]) rfl
    ⟨_, _, _, _, _, _, _, rfl, rat_kept ⟨⟨by rw [HE.out.1]; exact HSG.out, by rw [HE.out.1]; exact H4.out.1⟩, H4.out.2.1⟩ ⟨k2, k3, k4⟩, below_store3 (bnext hT.below H4.out.2.2.1) (by omega) _ _ _⟩
set_option maxRecDepth 100000 in
set_option maxHeartbeats 4000000 in
theorem qtimes_any (na nb : Bool) (ao po bo qo : Option Addr) (la ca lp cp lb cb lq cq : Nat) (a b : Rat) (w : World) (hx : RatAt w na ao la ca po lp cp a) (hy : RatAt w nb bo lb cb qo lq cq b) (ha : Sz a 1000) (hb : Sz b 1000) :
    Calls Tryz.prog 36 #[.agg #[.bool na, .slice ao la ca, .slice po lp cp], .agg #[.bool nb, .slice bo lb cb, .slice qo lq cq]] w fun e w' => SomeR w w' e (a * b) := by
  obtain ⟨W, hT⟩ := RTwo3.mk' w na nb ao po bo qo la ca lp cp lb cb lq cq
  have hsz := hT.size
  have HX : Hid (RatAt W na ao la ca po lp cp a ∧ RatAt W nb bo lb cb qo lq cq b) := ⟨hx.later hT.below, hy.later hT.below⟩
  have hla : la ≤ 1000 := (hx.len ha).1
  have hlp : lp ≤ 1000 := (hx.len ha).2
  have hlb : lb ≤ 1000 := (hy.len hb).1
  have hlq : lq ≤ 1000 := (hy.len hb).2
  have HS : Hid (Sz a 1000 ∧ Sz b 1000) := ⟨ha, hb⟩
  have KW : Hid (∀ w' : World, Below W.heap.size W w' → w'.cell? ⟨w.heap.size, 0, none⟩ = some (.bool na) ∧ w'.cell? ⟨w.heap.size, 1, none⟩ = some (.slice ao la ca) ∧ w'.cell? ⟨w.heap.size, 2, none⟩ = some (.slice po lp cp) ∧ w'.cell? ⟨w.heap.size + 1, 0, none⟩ = some (.bool nb) ∧ w'.cell? ⟨w.heap.size + 1, 1, none⟩ = some (.slice bo lb cb) ∧ w'.cell? ⟨w.heap.size + 1, 2, none⟩ = some (.slice qo lq cq)) := fun w' h => ⟨(h.cell (p := ⟨w.heap.size, 0, none⟩) (by show w.heap.size < _; omega)).trans hT.a.1, (h.cell (p := ⟨w.heap.size, 1, none⟩) (by show w.heap.size < _; omega)).trans hT.a.2.1, (h.cell (p := ⟨w.heap.size, 2, none⟩) (by show w.heap.size < _; omega)).trans hT.a.2.2, (h.cell (p := ⟨w.heap.size + 1, 0, none⟩) (by show w.heap.size + 1 < _; omega)).trans hT.b.1, (h.cell (p := ⟨w.heap.size + 1, 1, none⟩) (by show w.heap.size + 1 < _; omega)).trans hT.b.2.1, (h.cell (p := ⟨w.heap.size + 1, 2, none⟩) (by show w.heap.size + 1 < _; omega)).trans hT.b.2.2⟩
  have KS : Hid (∀ X : World, Below W.heap.size W X → ∀ x y z, (fun w' : World => w'.cell? ⟨w.heap.size, 0, none⟩ = some (.bool na) ∧ w'.cell? ⟨w.heap.size, 1, none⟩ = some (.slice ao la ca) ∧ w'.cell? ⟨w.heap.size, 2, none⟩ = some (.slice po lp cp) ∧ w'.cell? ⟨w.heap.size + 1, 0, none⟩ = some (.bool nb) ∧ w'.cell? ⟨w.heap.size + 1, 1, none⟩ = some (.slice bo lb cb) ∧ w'.cell? ⟨w.heap.size + 1, 2, none⟩ = some (.slice qo lq cq)) (((X.setCell ⟨w.heap.size + 1 + 1, 0, none⟩ x).setCell ⟨w.heap.size + 1 + 1, 1, none⟩ y).setCell ⟨w.heap.size + 1 + 1, 2, none⟩ z)) := fun X h x y z => by
    obtain ⟨h0, h1, h2, h3, h4, h5⟩ := KW.out X h
    (try dsimp only)
    rw [cell_off (by omega), cell_off (by omega), cell_off (by omega), cell_off (by omega), cell_off (by omega), cell_off (by omega), cell_off (by omega), cell_off (by omega), cell_off (by omega), cell_off (by omega), cell_off (by omega), cell_off (by omega), cell_off (by omega), cell_off (by omega), cell_off (by omega), cell_off (by omega), cell_off (by omega), cell_off (by omega)]
    exact ⟨h0, h1, h2, h3, h4, h5⟩
  have HF : Hid (Fresh3 W (w.heap.size + 1 + 1) ∧ Below w.heap.size w W) := ⟨hT.r, hT.below⟩
  have HL : Hid ((mag (a.num * (b.den : Int)).natAbs).length ≤ 3000 ∧ (mag (b.num * (a.den : Int)).natAbs).length ≤ 3000 ∧ (mag (a.num * (b.den : Int) + b.num * (a.den : Int)).natAbs).length ≤ 7000 ∧ (mag (a.den * b.den)).length ≤ 3000 ∧ (mag (a.num * b.num).natAbs).length ≤ 3000) := by
    have h1 := add_len (a.num * (b.den : Int)) (b.num * (a.den : Int))
    have h2 := mul_len a.num (b.den : Int)
    have h3 := mul_len b.num (a.den : Int)
    have h4 := mag_len_mul a.den b.den
    have h5 := mul_len a.num b.num
    rw [Int.natAbs_natCast] at h2 h3
    have := ha.1; have := ha.2; have := hb.1; have := hb.2
    refine ⟨?_, ?_, ?_, ?_, ?_⟩ <;> omega
  have h0 : a.den * b.den ≠ 0 := Nat.mul_ne_zero a.den_nz b.den_nz
  clear hx hy ha hb
  go_enter Tryz.func36, Tryz.ntmps36
  go_upto_region 1 with fail
  rw [← hT.eq]
  clear hT
  have hzU : W.heap.size ≤ W.drew.heap.size := Nat.le_refl _
  have S0 : Step8 0 := ⟨trivial⟩
  go_region_held3 (fun w' => (w'.cell? ⟨w.heap.size, 0, none⟩ = some (.bool na) ∧ w'.cell? ⟨w.heap.size, 1, none⟩ = some (.slice ao la ca) ∧ w'.cell? ⟨w.heap.size, 2, none⟩ = some (.slice po lp cp) ∧ w'.cell? ⟨w.heap.size + 1, 0, none⟩ = some (.bool nb) ∧ w'.cell? ⟨w.heap.size + 1, 1, none⟩ = some (.slice bo lb cb) ∧ w'.cell? ⟨w.heap.size + 1, 2, none⟩ = some (.slice qo lq cq)))
    (with_reducible (first | exact KS.out _ hbF3 _ _ _ | exact KW.out _ (Below.refl _ _).drew | exact KW.out _ (by assumption) | (refine KW.out _ ?_; (repeat (first | refine below_alloc ?_ (Nat.le_refl _) | refine Below.drew ?_ | refine below_set ?_ (by omega))); (first | exact hbF3 | exact hbF2 | exact hbF1 | exact Below.refl _ _))))
    (first
      | (have _t := S0; go_at_call 49; refine with_held (S := fun w9 => Below W.heap.size W w9) (by show Below _ _ _; with_reducible ((repeat (first | refine below_alloc ?_ (Nat.le_refl _) | refine Below.drew ?_ | refine below_set ?_ (by omega))); (first | exact hbF3 | exact hbF2 | exact hbF1 | exact Below.refl _ _))) (fun hS => ?_); refine (rtimes_any na nb ao bo la ca lb cb a.num b.num _ (HX.out.1.num.later hS) (HX.out.2.num.later hS) (by omega) (by omega)).mono ?_; rintro e f1 ⟨n1, o1, l1, c1, rfl, hs, ho, hb⟩; have H1 : Hid (IntAt f1 n1 o1 l1 c1 (a.num * b.num)) := ho.int hs; have hl1 : l1 ≤ 3000 := (by rw [ho.row.hlen]; exact HL.out.2.2.2.2); clear hs ho; have hbF1 : Below W.heap.size W f1 := bnext hS hb; have hzF1 := hbF1.size; clear hS hb S0; have S1 : Step8 1 := ⟨trivial⟩)
      | (have _t := S1; go_at_call 63; refine with_held (S := fun w9 => Below W.heap.size W w9) (by show Below _ _ _; with_reducible ((repeat (first | refine below_alloc ?_ (Nat.le_refl _) | refine Below.drew ?_ | refine below_set ?_ (by omega))); (first | exact hbF3 | exact hbF2 | exact hbF1 | exact Below.refl _ _))) (fun hS => ?_); refine with_held (S := fun w9 => Below f1.heap.size f1 w9) (by show Below _ _ _; with_reducible ((repeat (refine below_alloc ?_ (Nat.le_refl _))); exact Below.refl _ _)) (fun hS2 => ?_); refine (ntimes_any po qo lp cp lq cq a.den b.den _ (HX.out.1.den.later hS) (HX.out.2.den.later hS) (by omega) (by omega)).mono ?_; rintro e f2 ⟨o2, l2, c2, rfl, ho, hb⟩; have H2 : Hid (IntAt f2 n1 o1 l1 c1 (a.num * b.num) ∧ RowAt f2 .u64 o2 l2 c2 (mag (a.den * b.den))) := ⟨H1.out.later (bnext hS2 hb), ho.row⟩; have hl2 : l2 ≤ 3000 := (by rw [ho.row.hlen]; exact HL.out.2.2.2.1); clear ho; have hbF2 : Below W.heap.size W f2 := bnext hS hb; have hzF2 := hbF2.size; clear hS hb S1; clear hS2; have S2 : Step8 2 := ⟨trivial⟩)
      | (have _t := S2; go_at_call 61; refine with_held (S := fun w9 => Below W.heap.size W w9) (by show Below _ _ _; with_reducible ((repeat (first | refine below_alloc ?_ (Nat.le_refl _) | refine Below.drew ?_ | refine below_set ?_ (by omega))); (first | exact hbF3 | exact hbF2 | exact hbF1 | exact Below.refl _ _))) (fun hS => ?_); refine with_held (S := fun w9 => Below f2.heap.size f2 w9) (by show Below _ _ _; with_reducible ((repeat (refine below_alloc ?_ (Nat.le_refl _))); exact Below.refl _ _)) (fun hS2 => ?_); refine (qmake_any n1 o1 o2 l1 c1 l2 c2 (a.num * b.num) (a.den * b.den) _ (H2.out.1.later hS2) (H2.out.2.later hS2) h0 (by omega) (by omega) (a * b) (Rat.mul_def a b)).mono ?_; rintro e f3 ⟨nz, oz, lz, cz, pz, mz, dz, rfl, hz, hb⟩; have HZ : Hid (RatAt f3 nz oz lz cz pz mz dz _ ∧ Below W.heap.size W f3) := ⟨hz, bnext hS hb⟩; clear hz; obtain ⟨k5, k2, k3, k4⟩ := HF.out.1.later (bnext hS hb) (by omega); have hbF3 : Below W.heap.size W f3 := bnext hS hb; have hzF3 := hbF3.size; clear hS hb S2; clear hS2; skip))
  all_goals go_wp2
  exact bodyPost_ret (v := .agg #[.bool nz, .slice oz lz cz, .slice pz mz dz]) (by simp [results, Tryz.results36, go_sem, k2, k3, k4]) rfl
    ⟨_, _, _, _, _, _, _, rfl, rat_kept HZ.out.1 ⟨k2, k3, k4⟩, below_store3 (bnext HF.out.2 HZ.out.2) (by omega) _ _ _⟩
set_option maxRecDepth 100000 in
set_option maxHeartbeats 4000000 in
theorem qplus_any (na nb : Bool) (ao po bo qo : Option Addr) (la ca lp cp lb cb lq cq : Nat) (a b : Rat) (w : World) (hx : RatAt w na ao la ca po lp cp a) (hy : RatAt w nb bo lb cb qo lq cq b) (ha : Sz a 1000) (hb : Sz b 1000) :
    Calls Tryz.prog 35 #[.agg #[.bool na, .slice ao la ca, .slice po lp cp], .agg #[.bool nb, .slice bo lb cb, .slice qo lq cq]] w fun e w' => SomeR w w' e (a + b) := by
  obtain ⟨W, hT⟩ := RTwo3.mk' w na nb ao po bo qo la ca lp cp lb cb lq cq
  have hsz := hT.size
  have HX : Hid (RatAt W na ao la ca po lp cp a ∧ RatAt W nb bo lb cb qo lq cq b) := ⟨hx.later hT.below, hy.later hT.below⟩
  have hla : la ≤ 1000 := (hx.len ha).1
  have hlp : lp ≤ 1000 := (hx.len ha).2
  have hlb : lb ≤ 1000 := (hy.len hb).1
  have hlq : lq ≤ 1000 := (hy.len hb).2
  have HS : Hid (Sz a 1000 ∧ Sz b 1000) := ⟨ha, hb⟩
  have KW : Hid (∀ w' : World, Below W.heap.size W w' → w'.cell? ⟨w.heap.size, 0, none⟩ = some (.bool na) ∧ w'.cell? ⟨w.heap.size, 1, none⟩ = some (.slice ao la ca) ∧ w'.cell? ⟨w.heap.size, 2, none⟩ = some (.slice po lp cp) ∧ w'.cell? ⟨w.heap.size + 1, 0, none⟩ = some (.bool nb) ∧ w'.cell? ⟨w.heap.size + 1, 1, none⟩ = some (.slice bo lb cb) ∧ w'.cell? ⟨w.heap.size + 1, 2, none⟩ = some (.slice qo lq cq)) := fun w' h => ⟨(h.cell (p := ⟨w.heap.size, 0, none⟩) (by show w.heap.size < _; omega)).trans hT.a.1, (h.cell (p := ⟨w.heap.size, 1, none⟩) (by show w.heap.size < _; omega)).trans hT.a.2.1, (h.cell (p := ⟨w.heap.size, 2, none⟩) (by show w.heap.size < _; omega)).trans hT.a.2.2, (h.cell (p := ⟨w.heap.size + 1, 0, none⟩) (by show w.heap.size + 1 < _; omega)).trans hT.b.1, (h.cell (p := ⟨w.heap.size + 1, 1, none⟩) (by show w.heap.size + 1 < _; omega)).trans hT.b.2.1, (h.cell (p := ⟨w.heap.size + 1, 2, none⟩) (by show w.heap.size + 1 < _; omega)).trans hT.b.2.2⟩
  have KS : Hid (∀ X : World, Below W.heap.size W X → ∀ x y z, (fun w' : World => w'.cell? ⟨w.heap.size, 0, none⟩ = some (.bool na) ∧ w'.cell? ⟨w.heap.size, 1, none⟩ = some (.slice ao la ca) ∧ w'.cell? ⟨w.heap.size, 2, none⟩ = some (.slice po lp cp) ∧ w'.cell? ⟨w.heap.size + 1, 0, none⟩ = some (.bool nb) ∧ w'.cell? ⟨w.heap.size + 1, 1, none⟩ = some (.slice bo lb cb) ∧ w'.cell? ⟨w.heap.size + 1, 2, none⟩ = some (.slice qo lq cq)) (((X.setCell ⟨w.heap.size + 1 + 1, 0, none⟩ x).setCell ⟨w.heap.size + 1 + 1, 1, none⟩ y).setCell ⟨w.heap.size + 1 + 1, 2, none⟩ z)) := fun X h x y z => by
    obtain ⟨h0, h1, h2, h3, h4, h5⟩ := KW.out X h
    (try dsimp only)
    rw [cell_off (by omega), cell_off (by omega), cell_off (by omega), cell_off (by omega), cell_off (by omega), cell_off (by omega), cell_off (by omega), cell_off (by omega), cell_off (by omega), cell_off (by omega), cell_off (by omega), cell_off (by omega), cell_off (by omega), cell_off (by omega), cell_off (by omega), cell_off (by omega), cell_off (by omega), cell_off (by omega)]
    exact ⟨h0, h1, h2, h3, h4, h5⟩
  have HF : Hid (Fresh3 W (w.heap.size + 1 + 1) ∧ Below w.heap.size w W) := ⟨hT.r, hT.below⟩
  have HL : Hid ((mag (a.num * (b.den : Int)).natAbs).length ≤ 3000 ∧ (mag (b.num * (a.den : Int)).natAbs).length ≤ 3000 ∧ (mag (a.num * (b.den : Int) + b.num * (a.den : Int)).natAbs).length ≤ 7000 ∧ (mag (a.den * b.den)).length ≤ 3000 ∧ (mag (a.num * b.num).natAbs).length ≤ 3000) := by
    have h1 := add_len (a.num * (b.den : Int)) (b.num * (a.den : Int))
    have h2 := mul_len a.num (b.den : Int)
    have h3 := mul_len b.num (a.den : Int)
    have h4 := mag_len_mul a.den b.den
    have h5 := mul_len a.num b.num
    rw [Int.natAbs_natCast] at h2 h3
    have := ha.1; have := ha.2; have := hb.1; have := hb.2
    refine ⟨?_, ?_, ?_, ?_, ?_⟩ <;> omega
  have h0 : a.den * b.den ≠ 0 := Nat.mul_ne_zero a.den_nz b.den_nz
  clear hx hy ha hb
  go_enter Tryz.func35, Tryz.ntmps35
  go_upto_region 1 with fail
  rw [← hT.eq]
  clear hT
  have hzU : W.heap.size ≤ W.drew.heap.size := Nat.le_refl _
  have S0 : Step8 0 := ⟨trivial⟩
  go_region_held3 (fun w' => (w'.cell? ⟨w.heap.size, 0, none⟩ = some (.bool na) ∧ w'.cell? ⟨w.heap.size, 1, none⟩ = some (.slice ao la ca) ∧ w'.cell? ⟨w.heap.size, 2, none⟩ = some (.slice po lp cp) ∧ w'.cell? ⟨w.heap.size + 1, 0, none⟩ = some (.bool nb) ∧ w'.cell? ⟨w.heap.size + 1, 1, none⟩ = some (.slice bo lb cb) ∧ w'.cell? ⟨w.heap.size + 1, 2, none⟩ = some (.slice qo lq cq)))
    (with_reducible (first | exact KS.out _ hbF7 _ _ _ | exact KW.out _ (Below.refl _ _).drew | exact KW.out _ (by assumption) | (refine KW.out _ ?_; (repeat (first | refine below_alloc ?_ (Nat.le_refl _) | refine Below.drew ?_ | refine below_set ?_ (by omega))); (first | exact hbF7 | exact hbF6 | exact hbF5 | exact hbF4 | exact hbF3 | exact hbF2 | exact hbF1 | exact Below.refl _ _))))
    (first
      | (have _t := S0; go_at_call 50; refine with_held (S := fun w9 => Below W.heap.size W w9) (by show Below _ _ _; with_reducible ((repeat (first | refine below_alloc ?_ (Nat.le_refl _) | refine Below.drew ?_ | refine below_set ?_ (by omega))); (first | exact hbF7 | exact hbF6 | exact hbF5 | exact hbF4 | exact hbF3 | exact hbF2 | exact hbF1 | exact Below.refl _ _))) (fun hS => ?_); refine (qden_any nb bo qo lb cb lq cq _ (by omega)).mono ?_; rintro e f1 ⟨rfl, hb⟩; skip; have hbF1 : Below W.heap.size W f1 := bnext hS hb; have hzF1 := hbF1.size; clear hS hb S0; have S1 : Step8 1 := ⟨trivial⟩)
      | (have _t := S1; go_at_call 49; refine with_held (S := fun w9 => Below W.heap.size W w9) (by show Below _ _ _; with_reducible ((repeat (first | refine below_alloc ?_ (Nat.le_refl _) | refine Below.drew ?_ | refine below_set ?_ (by omega))); (first | exact hbF7 | exact hbF6 | exact hbF5 | exact hbF4 | exact hbF3 | exact hbF2 | exact hbF1 | exact Below.refl _ _))) (fun hS => ?_); refine with_held (S := fun w9 => Below f1.heap.size f1 w9) (by show Below _ _ _; with_reducible ((repeat (refine below_alloc ?_ (Nat.le_refl _))); exact Below.refl _ _)) (fun hS2 => ?_); refine (rtimes_any na false ao qo la ca lq cq a.num (b.den : Int) _ (HX.out.1.num.later hS) (row_int (HX.out.2.den.later hS)) (by omega) (by omega)).mono ?_; rintro e f2 ⟨n1, o1, l1, c1, rfl, hs, ho, hb⟩; have H2 : Hid (IntAt f2 n1 o1 l1 c1 (a.num * (b.den : Int))) := ho.int hs; have hl1 : l1 ≤ 3000 := (by rw [ho.row.hlen]; exact HL.out.1); clear hs ho; have hbF2 : Below W.heap.size W f2 := bnext hS hb; have hzF2 := hbF2.size; clear hS hb S1; clear hS2; have S2 : Step8 2 := ⟨trivial⟩)
      | (have _t := S2; go_at_call 50; refine with_held (S := fun w9 => Below W.heap.size W w9) (by show Below _ _ _; with_reducible ((repeat (first | refine below_alloc ?_ (Nat.le_refl _) | refine Below.drew ?_ | refine below_set ?_ (by omega))); (first | exact hbF7 | exact hbF6 | exact hbF5 | exact hbF4 | exact hbF3 | exact hbF2 | exact hbF1 | exact Below.refl _ _))) (fun hS => ?_); refine with_held (S := fun w9 => Below f2.heap.size f2 w9) (by show Below _ _ _; with_reducible ((repeat (refine below_alloc ?_ (Nat.le_refl _))); exact Below.refl _ _)) (fun hS2 => ?_); refine (qden_any na ao po la ca lp cp _ (by omega)).mono ?_; rintro e f3 ⟨rfl, hb⟩; have H3 : Hid (IntAt f3 n1 o1 l1 c1 (a.num * (b.den : Int))) := H2.out.later (bnext hS2 hb); have hbF3 : Below W.heap.size W f3 := bnext hS hb; have hzF3 := hbF3.size; clear hS hb S2; clear hS2; have S3 : Step8 3 := ⟨trivial⟩)
      | (have _t := S3; go_at_call 49; refine with_held (S := fun w9 => Below W.heap.size W w9) (by show Below _ _ _; with_reducible ((repeat (first | refine below_alloc ?_ (Nat.le_refl _) | refine Below.drew ?_ | refine below_set ?_ (by omega))); (first | exact hbF7 | exact hbF6 | exact hbF5 | exact hbF4 | exact hbF3 | exact hbF2 | exact hbF1 | exact Below.refl _ _))) (fun hS => ?_); refine with_held (S := fun w9 => Below f3.heap.size f3 w9) (by show Below _ _ _; with_reducible ((repeat (refine below_alloc ?_ (Nat.le_refl _))); exact Below.refl _ _)) (fun hS2 => ?_); refine (rtimes_any nb false bo po lb cb lp cp b.num (a.den : Int) _ (HX.out.2.num.later hS) (row_int (HX.out.1.den.later hS)) (by omega) (by omega)).mono ?_; rintro e f4 ⟨n2, o2, l2, c2, rfl, hs, ho, hb⟩; have H4 : Hid (IntAt f4 n1 o1 l1 c1 (a.num * (b.den : Int)) ∧ IntAt f4 n2 o2 l2 c2 (b.num * (a.den : Int))) := ⟨H3.out.later (bnext hS2 hb), ho.int hs⟩; have hl2 : l2 ≤ 3000 := (by rw [ho.row.hlen]; exact HL.out.2.1); clear hs ho; have hbF4 : Below W.heap.size W f4 := bnext hS hb; have hzF4 := hbF4.size; clear hS hb S3; clear hS2; have S4 : Step8 4 := ⟨trivial⟩)
      | (have _t := S4; go_at_call 62; refine with_held (S := fun w9 => Below W.heap.size W w9) (by show Below _ _ _; with_reducible ((repeat (first | refine below_alloc ?_ (Nat.le_refl _) | refine Below.drew ?_ | refine below_set ?_ (by omega))); (first | exact hbF7 | exact hbF6 | exact hbF5 | exact hbF4 | exact hbF3 | exact hbF2 | exact hbF1 | exact Below.refl _ _))) (fun hS => ?_); refine with_held (S := fun w9 => Below f4.heap.size f4 w9) (by show Below _ _ _; with_reducible ((repeat (refine below_alloc ?_ (Nat.le_refl _))); exact Below.refl _ _)) (fun hS2 => ?_); refine (rplus_any n1 n2 o1 o2 l1 c1 l2 c2 _ _ _ (H4.out.1.later hS2) (H4.out.2.later hS2) (by omega) (by omega)).mono ?_; rintro e f5 ⟨n3, o3, l3, c3, rfl, hi, hb⟩; have H5 : Hid (IntAt f5 n3 o3 l3 c3 (a.num * (b.den : Int) + b.num * (a.den : Int))) := hi; have hl3 : l3 ≤ 7000 := (by rw [hi.row.hlen]; exact HL.out.2.2.1); clear hi; have hbF5 : Below W.heap.size W f5 := bnext hS hb; have hzF5 := hbF5.size; clear hS hb S4; clear hS2; have S5 : Step8 5 := ⟨trivial⟩)
      | (have _t := S5; go_at_call 63; refine with_held (S := fun w9 => Below W.heap.size W w9) (by show Below _ _ _; with_reducible ((repeat (first | refine below_alloc ?_ (Nat.le_refl _) | refine Below.drew ?_ | refine below_set ?_ (by omega))); (first | exact hbF7 | exact hbF6 | exact hbF5 | exact hbF4 | exact hbF3 | exact hbF2 | exact hbF1 | exact Below.refl _ _))) (fun hS => ?_); refine with_held (S := fun w9 => Below f5.heap.size f5 w9) (by show Below _ _ _; with_reducible ((repeat (refine below_alloc ?_ (Nat.le_refl _))); exact Below.refl _ _)) (fun hS2 => ?_); refine (ntimes_any po qo lp cp lq cq a.den b.den _ (HX.out.1.den.later hS) (HX.out.2.den.later hS) (by omega) (by omega)).mono ?_; rintro e f6 ⟨o4, l4, c4, rfl, ho, hb⟩; have H6 : Hid (IntAt f6 n3 o3 l3 c3 (a.num * (b.den : Int) + b.num * (a.den : Int)) ∧ RowAt f6 .u64 o4 l4 c4 (mag (a.den * b.den))) := ⟨H5.out.later (bnext hS2 hb), ho.row⟩; have hl4 : l4 ≤ 3000 := (by rw [ho.row.hlen]; exact HL.out.2.2.2.1); clear ho; have hbF6 : Below W.heap.size W f6 := bnext hS hb; have hzF6 := hbF6.size; clear hS hb S5; clear hS2; have S6 : Step8 6 := ⟨trivial⟩)
      | (have _t := S6; go_at_call 61; refine with_held (S := fun w9 => Below W.heap.size W w9) (by show Below _ _ _; with_reducible ((repeat (first | refine below_alloc ?_ (Nat.le_refl _) | refine Below.drew ?_ | refine below_set ?_ (by omega))); (first | exact hbF7 | exact hbF6 | exact hbF5 | exact hbF4 | exact hbF3 | exact hbF2 | exact hbF1 | exact Below.refl _ _))) (fun hS => ?_); refine with_held (S := fun w9 => Below f6.heap.size f6 w9) (by show Below _ _ _; with_reducible ((repeat (refine below_alloc ?_ (Nat.le_refl _))); exact Below.refl _ _)) (fun hS2 => ?_); refine (qmake_any n3 o3 o4 l3 c3 l4 c4 (a.num * (b.den : Int) + b.num * (a.den : Int)) (a.den * b.den) _ (H6.out.1.later hS2) (H6.out.2.later hS2) h0 (by omega) (by omega) (a + b) (Rat.add_def a b)).mono ?_; rintro e f7 ⟨nz, oz, lz, cz, pz, mz, dz, rfl, hz, hb⟩; have HZ : Hid (RatAt f7 nz oz lz cz pz mz dz _ ∧ Below W.heap.size W f7) := ⟨hz, bnext hS hb⟩; clear hz; obtain ⟨k5, k2, k3, k4⟩ := HF.out.1.later (bnext hS hb) (by omega); have hbF7 : Below W.heap.size W f7 := bnext hS hb; have hzF7 := hbF7.size; clear hS hb S6; clear hS2; skip))
  all_goals go_wp2
  exact bodyPost_ret (v := .agg #[.bool nz, .slice oz lz cz, .slice pz mz dz]) (by simp [results, Tryz.results35, go_sem, k2, k3, k4]) rfl
    ⟨_, _, _, _, _, _, _, rfl, rat_kept HZ.out.1 ⟨k2, k3, k4⟩, below_store3 (bnext HF.out.2 HZ.out.2) (by omega) _ _ _⟩
end Go.Proofs.YthjkdnlbdhhmbaaGreatDoor
/-
  Walks: rat.lowest, Make. (gen/rmakes0.py, its first part)
-/
namespace Go.Proofs.YthjkdnlbdhhmbaaGreatDoor
open Go.RowKit
set_option linter.unusedVariables false
set_option linter.unusedSimpArgs false
set_option maxRecDepth 100000 in
set_option maxHeartbeats 4000000 in
theorem lowest_rat (na : Bool) (ao do' : Option Addr) (la ca ld cd : Nat) (v : Int) (d : Nat) (w : World) (hx : IntAt w na ao la ca v) (hy : RowAt w .u64 do' ld cd (mag d)) (h0 : d ≠ 0) (hl : la ≤ 1000000) (hl' : ld ≤ 1000000) (hT0 : TabAt 0 Lib.deBruijn64tab w) (r : Rat) (hr : r = Rat.normalize v d h0) :
    Calls Tryz.prog 88 #[.agg #[.bool na, .slice ao la ca], .slice do' ld cd] w fun e w' => NewRat w w' e r := by
  obtain ⟨W, hT⟩ := IR2.mk' w na ao la ca
  have hsz : w.heap.size + 2 ≤ W.heap.size := by rw [hT.size]; exact Nat.le_refl _
  have HX : Hid (IntAt W na ao la ca v ∧ RowAt W .u64 do' ld cd (mag d) ∧ TabAt 0 Lib.deBruijn64tab W) := ⟨hx.later hT.below, hy.later hT.below, tab_later hT0 hT.below⟩
  obtain ⟨g, hg⟩ : ∃ g, Nat.gcd v.natAbs d = g := ⟨_, rfl⟩
  have hg0 : 0 < g := by rw [← hg]; exact Nat.gcd_pos_of_pos_right _ (by omega)
  have HG : Hid (Nat.gcd v.natAbs d = g ∧ (g : Int) ∣ v ∧ (g : Int) ∣ (d : Int)) := ⟨hg, hg ▸ gcd_dvd_abs v d, hg ▸ Int.ofNat_dvd.2 (Nat.gcd_dvd_right _ _)⟩
  have HE : Hid (r.num = v / (g : Int) ∧ r.den = d / g ∧ (mag (v / (g : Int)).natAbs).length ≤ 1000000 ∧ (mag (d / g)).length ≤ 1000000 ∧ (mag g).length ≤ 1000000) := by
    have h1 := rmake_parts (n := v) h0
    rw [hg, ← hr] at h1
    have h2 := idiv_len (hg ▸ gcd_dvd_abs v d)
    have h3 := hx.row.hlen
    have h4 := hy.hlen
    have h5 := div_len d g
    have h6 := dvd_len (hg ▸ Nat.gcd_dvd_right v.natAbs d) (show 0 < d by omega)
    refine ⟨h1.1, h1.2, ?_, ?_, ?_⟩ <;> omega
  have hp0 : 0 < d := by omega
  clear hx hy hr hg hT0
  have hmag := run_mag
  go_enter Tryz.func88, Tryz.ntmps88
  obtain ⟨p0, p1⟩ := hT.a
  go_wp2_with (first
    | (go_at_call 83; rw [← hT.eq]; refine (common_any ao do' la ca ld cd v.natAbs d _ HX.out.1.row HX.out.2.1 hp0 (by omega) (by omega) HX.out.2.2).mono ?_; rw [HG.out.1]; rintro e w1 ⟨go, lg, cg, rfl, hr, hb1⟩; have hlg : lg ≤ 1000000 := (by rw [hr.hlen]; exact HE.out.2.2.2.2); have H1 : Hid (RowAt w1 .u64 go lg cg (mag g)) := hr; clear hr p0 p1; obtain ⟨p0, p1⟩ := hT.a.later hb1 (by omega))
    | (go_at_call 106; have _t := H3; refine (over_any false do' go ld cd lg cg (d : Int) g _ (row_int (HX.out.2.1.later H3.out.2.2)) (H1.out.later H3.out.2.1) (by omega) (by omega) hg0 HG.out.2.2).mono ?_; rintro e w4 ⟨n4, o4, l4, c4, rfl, hi, _, hb⟩; have H4 : Hid (RowAt w4 .u64 o4 l4 c4 (mag (d / g)) ∧ (n3 = sgB r.num ∧ Own W.heap.size w4 .u64 60 o3 l3 c3 (mag r.num.natAbs)) ∧ Below W.heap.size W w4) := ⟨(by have h := hi.row; rw [← Int.natCast_ediv, Int.natAbs_natCast] at h; exact h), ⟨H3.out.1.1, H3.out.1.2.later hb⟩, bnext H3.out.2.2 hb⟩; clear hi hb)
    | (go_at_call 106; refine (over_any na ao go la ca lg cg v g _ (HX.out.1.later hb1) H1.out (by omega) (by omega) hg0 HG.out.2.1).mono ?_; rintro e w2 ⟨n2, o2, l2, c2, rfl, hi, _, hb⟩; have hl2 : l2 ≤ 1000000 := (by rw [hi.row.hlen]; exact HE.out.2.2.1); have H2 : Hid (IntAt w2 n2 o2 l2 c2 (v / (g : Int)) ∧ Below w1.heap.size w1 w2) := ⟨hi, hb⟩; clear hi hb p0 p1)
    | (go_at_call 105; refine (rclone_any n2 o2 l2 c2 (v / (g : Int)) _ H2.out.1 (by omega)).mono ?_; rw [← HE.out.1]; rintro e w3 ⟨n3, o3, l3, c3, rfl, hs, ho, hb⟩; have H3 : Hid ((n3 = sgB r.num ∧ Own W.heap.size w3 .u64 60 o3 l3 c3 (mag r.num.natAbs)) ∧ Below w1.heap.size w1 w3 ∧ Below W.heap.size W w3) := ⟨⟨hs, ho.mono (bnext hb1 H2.out.2).size⟩, bnext H2.out.2 hb, bnext hb1 (bnext H2.out.2 hb)⟩; clear hs ho hb)
    | (go_at_call 107; refine (cloneNat_any o4 l4 c4 (d / g) _ H4.out.1 (by rw [H4.out.1.hlen]; have := HE.out.2.2.2.1; omega)).mono ?_; rintro e w5 ⟨o5, l5, c5, rfl, ho, hb⟩; have H5 : Hid ((n3 = sgB r.num ∧ Own W.heap.size w5 .u64 60 o3 l3 c3 (mag r.num.natAbs)) ∧ Own W.heap.size w5 .u64 60 o5 l5 c5 (mag r.den) ∧ Parted o3 o5 ∧ Below W.heap.size W w5) := ⟨⟨H4.out.2.1.1, H4.out.2.1.2.later hb⟩, (by rw [HE.out.2.1]; exact ho.mono H4.out.2.2.size), Parted.made H4.out.2.1.2 ho (Nat.le_refl _), bnext H4.out.2.2 hb⟩; clear ho hb; obtain ⟨k5, k2, k3, k4⟩ := hT.r.later H5.out.2.2.2 (by omega)))
  exact bodyPost_ret (v := .agg #[.bool n3, .slice o3 l3 c3, .slice o5 l5 c5]) (by simp [results, Tryz.results88, go_sem, k2, k3, k4]) rfl
    ⟨_, _, _, _, _, _, _, rfl, H5.out.1.1, (H5.out.1.2.store3 (by omega) _ _ _).mono (by omega), (H5.out.2.1.store3 (by omega) _ _ _).mono (by omega), H5.out.2.2.1, below_store3 (bnext hT.below H5.out.2.2.2) (by omega) _ _ _⟩
set_option maxRecDepth 100000 in
set_option maxHeartbeats 4000000 in
theorem make_good (na : Bool) (ao do' : Option Addr) (la ca ld cd : Nat) (x f : List Int) (v : Int) (d : Nat) (w : World) (hx : RowAt w .u64 ao la ca x) (hy : RowAt w .u64 do' ld cd f) (hl : la ≤ 1000000) (hl' : ld ≤ 1000000) (hm : mayB na x = true) (hm2 : mayB false f = true) (hxv : x = mag v.natAbs ∧ na = sgB v) (hfd : f = mag d) (h0 : d ≠ 0) (hT0 : TabAt 0 Lib.deBruijn64tab w) (r : Rat) (hr : r = Rat.normalize v d h0) :
    Calls Tryz.prog 57 #[.agg #[.bool na, .slice ao la ca], .slice do' ld cd] w fun e w' => NewRatErr w w' e r := by
  have HT : Hid (TabAt 0 Lib.deBruijn64tab w) := hT0
  clear hT0
  obtain ⟨W, hT⟩ := IR2.mk' w na ao la ca
  have hsz : w.heap.size + 2 ≤ W.heap.size := by rw [hT.size]; exact Nat.le_refl _
  have HX : Hid (RowAt W .u64 ao la ca x ∧ RowAt W .u64 do' ld cd f) := ⟨hx.later hT.below, hy.later hT.below⟩
  obtain ⟨p0, p1⟩ := hT.a
  clear hx hy
  have HTW : Hid (TabAt 0 Lib.deBruijn64tab W) := tab_later HT.out hT.below
  have HM : Hid ((if mayB na x then 0 else 10 : Int) = 0) := by show _ = _; rw [hm]; rfl
  have HM2 : Hid ((if mayB false f then 0 else 10 : Int) = 0) := by show _ = _; rw [hm2]; rfl
  have HV : Hid (IntAt W na ao la ca v ∧ RowAt W .u64 do' ld cd (mag d) ∧ r = Rat.normalize v d h0) := ⟨⟨hxv.2, hxv.1 ▸ HX.out.1⟩, hfd ▸ HX.out.2, hr⟩
  have hz' : ((ld : Int) == 0) = false := by
    have h1 : 0 < ld := by rw [HV.out.2.1.hlen]; exact mag_len_pos.2 (by omega)
    simp; omega
  clear hm hm2 hxv hfd hr
  go_enter Tryz.func57, Tryz.ntmps57
  go_wp2_with (first
    | (go_at_call 88; refine (lowest_rat na ao do' la ca ld cd v d _ (HV.out.1.later hb2) (HV.out.2.1.later hb2) h0 (by omega) (by omega) (tab_later HTW.out hb2) r HV.out.2.2).mono ?_; rintro e w3 ⟨n4, o4, l4, c4, o5, l5, c5, rfl, hs, ho, hp, hpt, hb3⟩; have HA : Hid (n4 = sgB r.num ∧ Own W.heap.size w3 .u64 60 o4 l4 c4 (mag r.num.natAbs) ∧ Own W.heap.size w3 .u64 60 o5 l5 c5 (mag r.den) ∧ Parted o4 o5 ∧ Below W.heap.size W w3) := ⟨hs, ho.mono hb2.size, hp.mono hb2.size, hpt, bnext hb2 hb3⟩; clear hs ho hp hpt hb3 p0 p1 g5 g2 g3 g4; obtain ⟨g5, g2, g3, g4⟩ := hT.r.later HA.out.2.2.2.2 (by omega))
    | (go_at_call 52; have _t := hb1; refine (check_at false do' ld cd f _ (HX.out.2.later hb1) (by omega) 0 HM2.out).mono ?_; rintro e w2 ⟨rfl, hb2'⟩; have hb2 := bnext hb1 hb2'; clear hb2' p0 p1 g5 g2 g3 g4; obtain ⟨p0, p1⟩ := hT.a.later hb2 (by omega); obtain ⟨g5, g2, g3, g4⟩ := hT.r.later hb2 (by omega))
    | (go_at_call 52; rw [← hT.eq]; refine (check_at na ao la ca x _ HX.out.1 (by omega) 0 HM.out).mono ?_; rintro e w1 ⟨rfl, hb1⟩; obtain ⟨p0, p1⟩ := hT.a.later hb1 (by omega); obtain ⟨g5, g2, g3, g4⟩ := hT.r.later hb1 (by omega)))
  exact bodyPost_ret (v := .tuple #[.agg #[.bool n4, .slice o4 l4 c4, .slice o5 l5 c5], .int .i64 0]) (by simp [results, Tryz.results57, go_sem, g2, g3, g4]) rfl
    ⟨_, _, _, _, _, _, _, rfl, HA.out.1, (HA.out.2.1.store3 (by omega) _ _ _).mono (by omega), (HA.out.2.2.1.store3 (by omega) _ _ _).mono (by omega), HA.out.2.2.2.1, below_store3 (bnext hT.below HA.out.2.2.2.2) (by omega) _ _ _⟩
end Go.Proofs.YthjkdnlbdhhmbaaGreatDoor
