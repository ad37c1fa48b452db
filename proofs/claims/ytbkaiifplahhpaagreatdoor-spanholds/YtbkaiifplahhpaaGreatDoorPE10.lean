/-
  A pack of walks and facts: LD0, RA.
-/
import Derived.Test.YtbkaiifplahhpaaGreatDoorPE03
import Derived.Test.YtbkaiifplahhpaaGreatDoorPE07
import Derived.Test.YtbkaiifplahhpaaGreatDoorPE09
import Derived.Deep.RegionHeld3
set_option maxRecDepth 100000
set_option maxHeartbeats 40000000
set_option linter.unusedVariables false
set_option linter.unusedSimpArgs false
namespace Go.Proofs.YtbkaiifplahhpaaGreatDoor
open Go.RowKit
structure InVar (W : World) (r : Nat) (neg : Bool) (ao : Option Addr) (l c : Nat) (v : Int) : Prop where
 box : Boxed W r neg ao l c
 int : IntAt W neg ao l c v
 lt : r < W.heap.size
theorem InVar.later {W w' : World} {r : Nat} {neg : Bool} {ao : Option Addr} {l c : Nat} {v : Int} (h : InVar W r neg ao l c v) (hb : Below W.heap.size W w') : InVar w' r neg ao l c v :=
 ⟨h.box.later hb h.lt, h.int.later hb, Nat.lt_of_lt_of_le h.lt hb.size⟩
theorem InVar.new {W X y : World} {neg : Bool} {ao : Option Addr} {l c : Nat} {v : Int} (hX : Below W.heap.size W X) (hs : neg = sgB v) (ho : Own X.heap.size y .u64 68 ao l c (mag v.natAbs)) (hb : Below X.heap.size X y) :
  Hid (InVar (y.alloc (.cells #[.bool neg, .slice ao l c] 26)) y.heap.size neg ao l c v ∧ Below W.heap.size W (y.alloc (.cells #[.bool neg, .slice ao l c] 26)) ∧ Below X.heap.size X (y.alloc (.cells #[.bool neg, .slice ao l c] 26))) := by
 have h1 : Below y.heap.size y (y.alloc (.cells #[.bool neg, .slice ao l c] 26)) := (Below.refl _ _).alloc (Nat.le_refl _) _
 have h2 : Below X.heap.size X (y.alloc (.cells #[.bool neg, .slice ao l c] 26)) := hb.trans (below_less h1 hb.size)
 exact ⟨⟨⟨by simp [go_sem], by simp [go_sem]⟩, (ho.int hs).later h1, by simp⟩, bnext hX h2, h2⟩
theorem mag_len_pow (a k : Nat) : (mag (a ^ k)).length ≤ (mag a).length * k + 1 := by
 induction k with
 | zero => rw [Nat.pow_zero]; have := mag_len_one (n := 1) (by decide); omega
 | succ k ih =>
  rw [Nat.pow_succ]
  have := mag_len_mul (a ^ k) a
  rw [Nat.mul_succ]; omega
end Go.Proofs.YtbkaiifplahhpaaGreatDoor
namespace Go.Proofs.YtbkaiifplahhpaaGreatDoor
open Go.RowKit
end Go.Proofs.YtbkaiifplahhpaaGreatDoor
namespace Go.Proofs.YtbkaiifplahhpaaGreatDoor
open Go.RowKit Go.Shelf
theorem bmul_any (na nb : Bool) (ao bo : Option Addr) (la ca lb cb : Nat) (a b : Int) (w : World) (hx : IntAt w na ao la ca a) (hy : IntAt w nb bo lb cb b) (hl : la ≤ 2147483648) (hl' : lb ≤ 2147483648) :
  Calls Tryz.prog 141 #[.agg #[.bool na, .slice ao la ca], .agg #[.bool nb, .slice bo lb cb]] w fun e w' => NewIntErr w w' e (a * b) := by
 obtain ⟨W, hT⟩ := Two3.mk' w na nb ao bo la ca lb cb
 have hsz := hT.size
 have hc : (if mayB na (mag a.natAbs) && mayB nb (mag b.natAbs) then 0 else 10 : Int) = 0 := by rw [hx.sg, hy.sg, may_int, may_int]; rfl
 have HC : Hid _ := hc
 have HV : Hid (a * b = sgn (na != nb) (a.natAbs * b.natAbs)) := sgn_mul hx.sg hy.sg
 have hRx := hx.later hT.below
 have hRy := hy.later hT.below
 clear hc hx hy
 have KS : Hid (∀ w' : World, Below (w.heap.size + 2) W w' → (Below (w.heap.size + 2) W w' ∧ w'.cell? ⟨w.heap.size, 0, none⟩ = some (.bool na) ∧ w'.cell? ⟨w.heap.size, 1, none⟩ = some (.slice ao la ca) ∧ w'.cell? ⟨w.heap.size + 1, 0, none⟩ = some (.bool nb) ∧ w'.cell? ⟨w.heap.size + 1, 1, none⟩ = some (.slice bo lb cb))) := fun w' h => ⟨h, (h.cell (p := ⟨w.heap.size, 0, none⟩) (by show w.heap.size < _; omega)).trans hT.a.1, (h.cell (p := ⟨w.heap.size, 1, none⟩) (by show w.heap.size < _; omega)).trans hT.a.2, (h.cell (p := ⟨w.heap.size + 1, 0, none⟩) (by show w.heap.size + 1 < _; omega)).trans hT.b.1, (h.cell (p := ⟨w.heap.size + 1, 1, none⟩) (by show w.heap.size + 1 < _; omega)).trans hT.b.2⟩
 have K1 : Hid (∀ w1 w2 : World, (Below (w.heap.size + 2) W w1 ∧ w1.cell? ⟨w.heap.size, 0, none⟩ = some (.bool na) ∧ w1.cell? ⟨w.heap.size, 1, none⟩ = some (.slice ao la ca) ∧ w1.cell? ⟨w.heap.size + 1, 0, none⟩ = some (.bool nb) ∧ w1.cell? ⟨w.heap.size + 1, 1, none⟩ = some (.slice bo lb cb)) → Below w1.heap.size w1 w2 → (Below (w.heap.size + 2) W w2 ∧ w2.cell? ⟨w.heap.size, 0, none⟩ = some (.bool na) ∧ w2.cell? ⟨w.heap.size, 1, none⟩ = some (.slice ao la ca) ∧ w2.cell? ⟨w.heap.size + 1, 0, none⟩ = some (.bool nb) ∧ w2.cell? ⟨w.heap.size + 1, 1, none⟩ = some (.slice bo lb cb))) := fun w1 w2 h hb => KS.out _ (h.1.trans (hb.mono (by have := h.1.size; omega)))
 have K2 : Hid (∀ w1 w2 : World, (Below (w.heap.size + 2) W w1 ∧ w1.cell? ⟨w.heap.size, 0, none⟩ = some (.bool na) ∧ w1.cell? ⟨w.heap.size, 1, none⟩ = some (.slice ao la ca) ∧ w1.cell? ⟨w.heap.size + 1, 0, none⟩ = some (.bool nb) ∧ w1.cell? ⟨w.heap.size + 1, 1, none⟩ = some (.slice bo lb cb)) → Below (w.heap.size + 2) w1 w2 → (Below (w.heap.size + 2) W w2 ∧ w2.cell? ⟨w.heap.size, 0, none⟩ = some (.bool na) ∧ w2.cell? ⟨w.heap.size, 1, none⟩ = some (.slice ao la ca) ∧ w2.cell? ⟨w.heap.size + 1, 0, none⟩ = some (.bool nb) ∧ w2.cell? ⟨w.heap.size + 1, 1, none⟩ = some (.slice bo lb cb))) := fun w1 w2 h hb => KS.out _ (h.1.trans hb)
 go_enter Tryz.func141, Tryz.ntmps141
 go_wp2_with (go_at_call 135; rw [← hT.eq]; refine (checkBoth_any na nb ao bo la ca lb cb _ _ _ hRx.row hRy.row (by omega) (by omega) 0 HC.out).mono ?_; rintro e w1 ⟨rfl, hb1⟩; have hs1 := hb1.size)
 have hbX : Below (w.heap.size + 2) W w1 := hb1.mono (by omega)
 go_region_held3 (fun w' => Below (w.heap.size + 2) W w' ∧ w'.cell? ⟨w.heap.size, 0, none⟩ = some (.bool na) ∧ w'.cell? ⟨w.heap.size, 1, none⟩ = some (.slice ao la ca) ∧ w'.cell? ⟨w.heap.size + 1, 0, none⟩ = some (.bool nb) ∧ w'.cell? ⟨w.heap.size + 1, 1, none⟩ = some (.slice bo lb cb))
  (first
   | exact KS.out _ hbX.drew
   | exact K1.out _ _ (by assumption) (by assumption)
   | exact K2.out _ _ (by assumption) (below_store (Below.refl _ _) (by omega) _ _))
  (first
   | (go_at_call 148; refine (times_any ao bo la ca lb cb _ _ _ (hRx.row.later hb1.drew) (hRy.row.later hb1.drew) (by omega) (by omega)).mono ?_; rintro e w2 ⟨ao2, l2, c2, rfl, ho2, hb2⟩; have hlen2 : l2 ≤ 4294967296 := (by rw [ho2.row.hlen]; have q := mag_len_mul a.natAbs b.natAbs; rw [← hRx.row.hlen, ← hRy.row.hlen] at q; omega))
   | (go_at_call 124; refine (signed_any (na != nb) ao2 l2 c2 _ (by omega)).mono ?_; rintro e w3 ⟨rfl, hb3⟩; obtain ⟨g5, g3, g4⟩ := hT.r.later (bnext hb1.drew (bnext hb2 hb3)) (by omega)))
 go_wp2
 have hN := NewInt.ret (w := w) ((ho2.later hb3).store (r := w.heap.size + 1 + 1) (by show _ < w1.heap.size; omega) (.bool ((na != nb) && decide (0 < l2))) (.slice ao2 l2 c2)) (by show _ ≤ w1.heap.size; omega) HV.out (below_store (bnext hT.below (bnext hb1.drew (bnext hb2 hb3))) (by omega) _ _)
 obtain ⟨n9, ao9, l9, c9, he9, hrest9⟩ := hN
 simp only [Ending.returned.injEq, Value.agg.injEq] at he9
 exact bodyPost_ret (v := .tuple #[.agg #[.bool ((na != nb) && decide (0 < l2)), .slice ao2 l2 c2], .int .i64 0]) (by simp [results, Tryz.results141, go_sem, g3, g4]) rfl
  ⟨n9, ao9, l9, c9, by rw [he9], hrest9⟩
end Go.Proofs.YtbkaiifplahhpaaGreatDoor
namespace Go.Proofs.YtbkaiifplahhpaaGreatDoor
open Go.RowKit
theorem add_len (a b : Int) : (mag (a + b).natAbs).length ≤ (mag a.natAbs).length + (mag b.natAbs).length + 1 :=
 Nat.le_trans (mag_len_mono (Int.natAbs_add_le a b)) (mag_len_add _ _)
theorem mul_len (a b : Int) : (mag (a * b).natAbs).length ≤ (mag a.natAbs).length + (mag b.natAbs).length := by rw [Int.natAbs_mul]; exact mag_len_mul _ _
def Num (w : World) (neg : Bool) (ao : Option Addr) (l c : Nat) (v : Int) (B : Nat) : Prop := IntAt w neg ao l c v ∧ l ≤ B
theorem Num.later {w w' : World} {neg : Bool} {ao : Option Addr} {l c B : Nat} {v : Int} (h : Num w neg ao l c v B) (hb : Below w.heap.size w w') : Num w' neg ao l c v B := ⟨h.1.later hb, h.2⟩
theorem Fresh.alloc' {X : World} {r : Nat} {o : Obj} (h : Fresh X r) : Fresh (X.alloc o) r := by
 have hb : Below X.heap.size X (X.alloc o) := (Below.refl _ _).alloc (Nat.le_refl _) _
 exact h.later hb (cell_lt h.2.1)
theorem Fresh.drew' {X : World} {r : Nat} (h : Fresh X r) : Fresh X.drew r := ⟨h.1, h.2.1, h.2.2⟩
theorem fresh_mk {W : World} {r : Nat} (h1 : ∀ j, W.frozen? ⟨r, j, none⟩ = false) (h2 : W.cell? ⟨r, 0, none⟩ = some (.bool false)) (h3 : W.cell? ⟨r, 1, none⟩ = some (.slice none 0 0)) : Fresh W r := ⟨h1, h2, h3⟩
theorem Fresh.next {W w2 : World} {r : Nat} (k : Fresh W r) (h : Below W.heap.size W w2) : Fresh w2 r := k.later h (cell_lt k.2.1)
theorem Fresh.new1 (w : World) : Fresh ((w.alloc (.cells #[.bool false, .slice none 0 0] 26)).alloc (.cells #[.bool false, .slice none 0 0] 26)) (w.heap.size + 1) := by
 have := Fresh.new (w.alloc (.cells #[.bool false, .slice none 0 0] 26))
 simpa using this
theorem with_held {S : World → Prop} {P : Program} {f : FuncId} {args : Array Value} {W : World} {Q : Ending → World → Prop} (h : S W) (k : S W → Calls P f args W Q) : Calls P f args W Q := k h
theorem own_alloc {B : Nat} {X : World} {k : IntKind} {t : TypeId} {ao : Option Addr} {l c : Nat} {zs : List Int} {o : Obj} (h : Own B X k t ao l c zs) : Own B (X.alloc o) k t ao l c zs := h.later ((Below.refl _ _).alloc (Nat.le_refl _) _)
theorem own_set {B : Nat} {X : World} {k : IntKind} {t : TypeId} {ao : Option Addr} {l c r j : Nat} {zs : List Int} {v : Value} (h : Own B X k t ao l c zs) (hr : r < B) : Own B (X.setCell ⟨r, j, none⟩ v) k t ao l c zs := h.setOther (a := ⟨r, j, none⟩) hr v
theorem below_alloc {B : Nat} {w X : World} {o : Obj} (h : Below B w X) (hB : B ≤ w.heap.size) : Below B w (X.alloc o) := h.alloc (Nat.le_trans hB h.size) o
theorem below_set {B r j : Nat} {w X : World} {v : Value} (h : Below B w X) (hr : B ≤ r) : Below B w (X.setCell ⟨r, j, none⟩ v) := h.setCell (p := ⟨r, j, none⟩) hr v
end Go.Proofs.YtbkaiifplahhpaaGreatDoor
namespace Go.Proofs.YtbkaiifplahhpaaGreatDoor
open Go.RowKit
theorem rmul_parts (a b : Rat) : (a * b).num = a.num / ((a.num.natAbs.gcd b.den : Nat) : Int) * (b.num / ((b.num.natAbs.gcd a.den : Nat) : Int)) ∧ (a * b).den = a.den / b.num.natAbs.gcd a.den * (b.den / a.num.natAbs.gcd b.den) := by
 constructor
 ·
  show (Rat.mul a b).num = _
  rw [Rat.mul]; simp only [Int.divExact_eq_ediv]
 ·
  show (Rat.mul a b).den = _
  rw [Rat.mul]; simp only [Nat.divExact_eq_div]
theorem rmake_parts {n : Int} {d : Nat} (h : d ≠ 0) : (Rat.normalize n d h).num = n / ((n.natAbs.gcd d : Nat) : Int) ∧ (Rat.normalize n d h).den = d / n.natAbs.gcd d := by
 rw [Rat.normalize_eq]; exact ⟨rfl, rfl⟩
theorem radd_mk (a b : Rat) (h : a.den / a.den.gcd b.den * b.den ≠ 0) : a + b = Rat.normalize (a.num * ((b.den / a.den.gcd b.den : Nat) : Int) + b.num * ((a.den / a.den.gcd b.den : Nat) : Int)) (a.den / a.den.gcd b.den * b.den) h := by
 rw [Rat.add_def, Rat.normalize_eq_iff]
 obtain ⟨x, hx⟩ := Nat.gcd_dvd_left a.den b.den
 obtain ⟨y, hy⟩ := Nat.gcd_dvd_right a.den b.den
 have hg : 0 < a.den.gcd b.den := Nat.gcd_pos_of_pos_left _ a.den_pos
 generalize hG : a.den.gcd b.den = g at *
 have e1 : a.den / g = x := by rw [hx]; exact Nat.mul_div_cancel_left _ hg
 have e2 : b.den / g = y := by rw [hy]; exact Nat.mul_div_cancel_left _ hg
 rw [e1, e2, hx, hy]
 simp only [Int.natCast_mul]
 grind
theorem radd_parts (a b : Rat) (n : Int) (hn : n = a.num * ((b.den / a.den.gcd b.den : Nat) : Int) + b.num * ((a.den / a.den.gcd b.den : Nat) : Int)) :
  (a + b).num = n / ((n.natAbs.gcd (a.den.gcd b.den) : Nat) : Int) ∧ (a + b).den = a.den / a.den.gcd b.den * (b.den / n.natAbs.gcd (a.den.gcd b.den)) := by
 have hg : 0 < a.den.gcd b.den := Nat.gcd_pos_of_pos_left _ a.den_pos
 have h : a.den / a.den.gcd b.den * b.den ≠ 0 := by
  have h1 : 0 < a.den / a.den.gcd b.den := Nat.div_pos (Nat.gcd_le_left _ a.den_pos) hg
  exact Nat.ne_of_gt (Nat.mul_pos h1 b.den_pos)
 have aux := Rat.add.aux a b rfl rfl rfl
 simp only at aux
 obtain ⟨m1, m2⟩ := rmake_parts (n := a.num * ((b.den / a.den.gcd b.den : Nat) : Int) + b.num * ((a.den / a.den.gcd b.den : Nat) : Int)) h
 rw [← radd_mk a b h, ← aux, ← hn] at m1 m2
 refine ⟨m1, ?_⟩
 rw [m2]
 exact Nat.mul_div_assoc _ (Nat.dvd_trans (Nat.gcd_dvd_right _ _) (Nat.gcd_dvd_right _ _))
def Sz (r : Rat) (k : Nat) : Prop := (mag r.num.natAbs).length ≤ k ∧ (mag r.den).length ≤ k
theorem Sz.mono {r : Rat} {k m : Nat} (h : Sz r k) (hk : k ≤ m) : Sz r m := ⟨Nat.le_trans h.1 hk, Nat.le_trans h.2 hk⟩
theorem dvd_len {a b : Nat} (h : a ∣ b) (hb : 0 < b) : (mag a).length ≤ (mag b).length := mag_len_mono (Nat.le_of_dvd hb h)
theorem len_zero : (mag 0).length = 0 := by decide
theorem div_len (a b : Nat) : (mag (a / b)).length ≤ (mag a).length := mag_len_mono (Nat.div_le_self a b)
theorem idiv_abs {n : Int} {d : Nat} (h : (d : Int) ∣ n) : (n / (d : Int)).natAbs = n.natAbs / d := by
 rw [Int.natAbs_ediv_of_dvd h]; rfl
theorem idiv_len {n : Int} {d : Nat} (h : (d : Int) ∣ n) : (mag (n / (d : Int)).natAbs).length ≤ (mag n.natAbs).length := by
 rw [idiv_abs h]; exact div_len _ _
theorem gcd_dvd_abs (n : Int) (d : Nat) : ((n.natAbs.gcd d : Nat) : Int) ∣ n := Int.ofNat_dvd_left.2 (Nat.gcd_dvd_left _ _)
theorem Sz.make {n : Int} {d k : Nat} (h : d ≠ 0) (h1 : (mag n.natAbs).length ≤ k) (h2 : (mag d).length ≤ k) : Sz (Rat.normalize n d h) k := by
 obtain ⟨e1, e2⟩ := rmake_parts (n := n) h
 exact ⟨by rw [e1]; exact Nat.le_trans (idiv_len (gcd_dvd_abs _ _)) h1, by rw [e2]; exact Nat.le_trans (div_len _ _) h2⟩
theorem Sz.mul {a b : Rat} {i j : Nat} (ha : Sz a i) (hb : Sz b j) : Sz (a * b) (i + j) := by
 rw [Rat.mul_def]
 refine Sz.make _ ?_ ?_
 ·
  rw [Int.natAbs_mul]; have := mag_len_mul a.num.natAbs b.num.natAbs; have := ha.1; have := hb.1; omega
 ·
  have := mag_len_mul a.den b.den; have := ha.2; have := hb.2; omega
theorem Sz.neg {a : Rat} {i : Nat} (ha : Sz a i) : Sz (-a) i := ⟨by rw [Rat.neg_num, Int.natAbs_neg]; exact ha.1, by rw [Rat.neg_den]; exact ha.2⟩
theorem Sz.add {a b : Rat} {i j : Nat} (ha : Sz a i) (hb : Sz b j) : Sz (a + b) (2 * i + 2 * j + 1) := by
 rw [Rat.add_def]
 refine Sz.make _ ?_ ?_
 ·
  have h1 := add_len (a.num * (b.den : Int)) (b.num * (a.den : Int))
  have h2 := mul_len a.num (b.den : Int)
  have h3 := mul_len b.num (a.den : Int)
  rw [Int.natAbs_natCast] at h2 h3
  have := ha.1; have := ha.2; have := hb.1; have := hb.2; omega
 ·
  have := mag_len_mul a.den b.den; have := ha.2; have := hb.2; omega
theorem row_int {w : World} {ao : Option Addr} {l c n : Nat} (h : RowAt w .u64 ao l c (mag n)) : IntAt w false ao l c (n : Int) := ⟨by simp [sgB], h⟩
structure RatAt (w : World) (neg : Bool) (ao : Option Addr) (l c : Nat) (bo : Option Addr) (lb cb : Nat) (r : Rat) : Prop where
 num : IntAt w neg ao l c r.num
 den : RowAt w .u64 bo lb cb (mag r.den)
theorem RatAt.later {w w' : World} {neg : Bool} {ao bo : Option Addr} {l c lb cb : Nat} {r : Rat} (h : RatAt w neg ao l c bo lb cb r) (hb : Below w.heap.size w w') : RatAt w' neg ao l c bo lb cb r := ⟨h.num.later hb, h.den.later hb⟩
theorem RatAt.len {w : World} {neg : Bool} {ao bo : Option Addr} {l c lb cb k : Nat} {r : Rat} (h : RatAt w neg ao l c bo lb cb r) (hs : Sz r k) : l ≤ k ∧ lb ≤ k := ⟨by rw [h.num.row.hlen]; exact hs.1, by rw [h.den.hlen]; exact hs.2⟩
def NewRat (w w' : World) (e : Ending) (r : Rat) : Prop :=
 ∃ neg ao l c bo lb cb, e = .returned (.agg #[.bool neg, .slice ao l c, .slice bo lb cb]) ∧ neg = sgB r.num ∧ Own w.heap.size w' .u64 68 ao l c (mag r.num.natAbs) ∧ Own w.heap.size w' .u64 68 bo lb cb (mag r.den) ∧ Parted ao bo ∧ Below w.heap.size w w'
def NewRatErr (w w' : World) (e : Ending) (r : Rat) : Prop :=
 ∃ neg ao l c bo lb cb, e = .returned (.tuple #[.agg #[.bool neg, .slice ao l c, .slice bo lb cb], .int .i64 0]) ∧ neg = sgB r.num ∧ Own w.heap.size w' .u64 68 ao l c (mag r.num.natAbs) ∧ Own w.heap.size w' .u64 68 bo lb cb (mag r.den) ∧ Parted ao bo ∧ Below w.heap.size w w'
def Bx (W : World) (r : Nat) (vs : List Value) : Prop := (∀ j v, vs[j]? = some v → W.cell? ⟨r, j, none⟩ = some v) ∧ (∀ j, W.frozen? ⟨r, j, none⟩ = false)
theorem Bx.later {W w' : World} {B r : Nat} {vs : List Value} (h : Bx W r vs) (hb : Below B W w') (hr : r < B) : Bx w' r vs :=
 ⟨fun j v hj => (hb.cell (p := ⟨r, j, none⟩) hr).trans (h.1 j v hj), fun j => (hb.frozen (p := ⟨r, j, none⟩) hr).trans (h.2 j)⟩
end Go.Proofs.YtbkaiifplahhpaaGreatDoor
