/-
  LB0, LD0.
-/
import Derived.Test.YtiiefpnkpfliiaaGreatDoorEO
import Derived.Test.YtiiefpnkpfliiaaGreatDoorLA0
import Derived.Deep.RegionHeld3
import Derived.Test.YtiiefpnkpfliiaaGreatDoorKF
import Derived.Test.YtiiefpnkpfliiaaGreatDoorES

/- Numbers that lie in variables; lengths of powers. -/
namespace Go.Proofs.YtiiefpnkpfliiaaGreatDoor
open Go.RowKit
set_option linter.unusedVariables false
set_option linter.unusedSimpArgs false

/-- a number in a variable of its own -/
structure InVar (W : World) (r : Nat) (neg : Bool) (ao : Option Addr) (l c : Nat) (v : Int) : Prop where
  box : Boxed W r neg ao l c
  int : IntAt W neg ao l c v
  lt : r < W.heap.size
theorem InVar.later {W w' : World} {r : Nat} {neg : Bool} {ao : Option Addr} {l c : Nat} {v : Int} (h : InVar W r neg ao l c v) (hb : Below W.heap.size W w') : InVar w' r neg ao l c v :=
  ⟨h.box.later hb h.lt, h.int.later hb, Nat.lt_of_lt_of_le h.lt hb.size⟩
theorem InVar.new {W X y : World} {neg : Bool} {ao : Option Addr} {l c : Nat} {v : Int} (hX : Below W.heap.size W X) (hs : neg = sgB v) (ho : Own X.heap.size y .u64 59 ao l c (mag v.natAbs)) (hb : Below X.heap.size X y) :
    Hid (InVar (y.alloc (.cells #[.bool neg, .slice ao l c] 26)) y.heap.size neg ao l c v ∧ Below W.heap.size W (y.alloc (.cells #[.bool neg, .slice ao l c] 26)) ∧ Below X.heap.size X (y.alloc (.cells #[.bool neg, .slice ao l c] 26))) := by
  have h1 : Below y.heap.size y (y.alloc (.cells #[.bool neg, .slice ao l c] 26)) := (Below.refl _ _).alloc (Nat.le_refl _) _
  have h2 : Below X.heap.size X (y.alloc (.cells #[.bool neg, .slice ao l c] 26)) := hb.trans (below_less h1 hb.size)
  exact ⟨⟨⟨by simp [go_sem], by simp [go_sem]⟩, (ho.int hs).later h1, by simp⟩, bnext hX h2, h2⟩
theorem sgB_nat (a : Nat) : sgB (a : Int) = false := by
  unfold sgB; exact decide_eq_false (by omega)
theorem mag_len_pow (a k : Nat) : (mag (a ^ k)).length ≤ (mag a).length * k + 1 := by
  induction k with
  | zero => rw [Nat.pow_zero]; have := mag_len_one (n := 1) (by decide); omega
  | succ k ih =>
    rw [Nat.pow_succ]
    have := mag_len_mul (a ^ k) a
    rw [Nat.mul_succ]; omega
theorem pow_len_le {a k A K M : Nat} (ha : (mag a).length ≤ A) (hk : k ≤ K) (hM : A * K + 1 ≤ M) : (mag (a ^ k)).length ≤ M := by
  have h1 := mag_len_pow a k
  have h2 := Nat.mul_le_mul ha hk
  omega
theorem babs_nat (neg : Bool) (ao : Option Addr) (len cap : Nat) (v : Int) (w : World) (hx : IntAt w neg ao len cap v) (hl : len ≤ 4294967296) :
    Calls Tryz.prog 57 #[.agg #[.bool neg, .slice ao len cap]] w fun e w' => ∃ ao2 l2 c2, e = .returned (.agg #[.bool false, .slice ao2 l2 c2]) ∧ Own w.heap.size w' .u64 59 ao2 l2 c2 (mag v.natAbs) ∧ IntAt w' false ao2 l2 c2 (v.natAbs : Int) ∧ l2 = len ∧ Below w.heap.size w w' :=
  (babs_any neg ao len cap v w hx hl).mono fun e w' h => by
    obtain ⟨n2, ao2, l2, c2, rfl, hs2, ho2, hb2⟩ := h
    rw [sgB_nat] at hs2; subst hs2
    rw [Int.natAbs_natCast] at ho2
    exact ⟨ao2, l2, c2, rfl, ho2, ⟨(sgB_nat _).symm, by rw [Int.natAbs_natCast]; exact ho2.row⟩, by rw [ho2.row.hlen, ← hx.row.hlen], hb2⟩
/-- the root of a power, one more often, is not above the number -/
theorem root_more {v n r : Nat} (hv : 0 < v) (h : IsRoot (v ^ n) (n + 1) r) : r ≤ v := by
  rcases Nat.lt_or_ge v r with h1 | h1
  · exfalso
    have h2 := npow_le (n + 1) (show v + 1 ≤ r from h1)
    have h3 : v ^ n < (v + 1) ^ (n + 1) := by
      have h4 : v ^ n ≤ v ^ (n + 1) := Nat.pow_le_pow_right hv (by omega)
      have h5 : v ^ (n + 1) < (v + 1) ^ (n + 1) := Nat.pow_lt_pow_left (by omega) (by omega)
      omega
    have := h.1
    omega
  · exact h1
theorem root_same {v n : Nat} (hn : 0 < n) : IsRoot (v ^ n) n v := ⟨Nat.le_refl _, Nat.pow_lt_pow_left (by omega) (by omega)⟩
theorem mul_facts {W X ym : World} {nm : Bool} {aom : Option Addr} {lm cm n : Nat} {v u : Int} (hs : nm = sgB (v * u)) (ho : Own X.heap.size ym .u64 59 aom lm cm (mag (v * u).natAbs)) (hb : Below X.heap.size X ym) (hX : Below W.heap.size W X) (hv : (mag v.natAbs).length ≤ 3) (hu : (mag u.natAbs).length ≤ 3) (hn : n ≤ 8) :
    Hid (IntAt ym nm aom lm cm (v * u) ∧ Below W.heap.size W ym ∧ lm < 40 ∧ (mag ((v * u).natAbs ^ (n / 2))).length < 40 ∧ (mag ((v * u).natAbs ^ n)).length < 80) := by
  have h1 := mag_len_mul v.natAbs u.natAbs
  rw [← Int.natAbs_mul] at h1
  have h2 : (mag (v * u).natAbs).length ≤ 6 := by omega
  exact ⟨ho.int hs, bnext hX hb, by rw [ho.row.hlen]; omega, Nat.lt_of_le_of_lt (pow_len_le (K := 4) h2 (by omega) (Nat.le_refl _)) (by decide), Nat.lt_of_le_of_lt (pow_len_le (K := 8) h2 hn (Nat.le_refl _)) (by decide)⟩
theorem mul_got {x : World} {B : Nat} {neg : Bool} {ao : Option Addr} {l c l1 l2 : Nat} {a b : Int} (hs : neg = sgB (a * b)) (ho : Own B x .u64 59 ao l c (mag (a * b).natAbs)) (h1 : l1 = (mag a.natAbs).length) (h2 : l2 = (mag b.natAbs).length) (hl1 : l1 ≤ 25) (hl2 : l2 ≤ 25) :
    Hid (IntAt x neg ao l c (a * b) ∧ l ≤ 100) := by
  have h := mag_len_mul a.natAbs b.natAbs
  rw [← Int.natAbs_mul] at h
  exact ⟨ho.int hs, by rw [ho.row.hlen]; omega⟩
theorem root_short {v n : Nat} (hv : (mag v).length ≤ 3) (hn : n ≤ 8) : (mag (2 ^ (n + 1) * v ^ n)).length < 40 := by
  have h1 := mag_len_mul (2 ^ (n + 1)) (v ^ n)
  have h2 := pow_len_le (K := 8) hv hn (Nat.le_refl _)
  have h3 := mag_len_one (n := 2 ^ (n + 1)) (Nat.lt_of_le_of_lt (Nat.pow_le_pow_right (n := 2) (by decide) (show n + 1 ≤ 9 by omega)) (by decide))
  omega
theorem root_short2 {v n k : Nat} (hv : (mag v).length ≤ 3) (hn : n ≤ 8) (hk : k ≤ 9) : (mag (2 ^ k * v ^ n)).length < 40 := by
  have h1 := mag_len_mul (2 ^ k) (v ^ n)
  have h2 := pow_len_le (K := 8) hv hn (Nat.le_refl _)
  have h3 := mag_len_one (n := 2 ^ k) (Nat.lt_of_le_of_lt (Nat.pow_le_pow_right (n := 2) (by decide) hk) (by decide))
  omega
theorem cmpI_pos {a b : Int} (h : 0 < cmpI a b) : b < a := by
  rcases Int.lt_trichotomy a b with h1 | h1 | h1
  · rw [cmpI_lt h1] at h; omega
  · rw [cmpI_eq h1] at h; omega
  · exact h1
theorem powers_case {v : Int} {n r : Nat} {c : Int} (hr : IsRoot (v.natAbs ^ n) (n + 1) r) (hc : cmpI (r : Int) (v.natAbs : Int) = c) (h : 0 < c) : v = 0 ∧ n = 0 := by
  rw [← hc] at h
  have h1 := cmpI_pos h
  have h2 : v.natAbs = 0 := by
    rcases Nat.eq_zero_or_pos v.natAbs with e | e
    · exact e
    · have := root_more e hr; omega
  refine ⟨by omega, ?_⟩
  rcases Nat.eq_zero_or_pos n with e | e
  · exact e
  · exfalso
    rw [h2, Nat.zero_pow e] at hr
    have h3 := root_le hr (by omega)
    omega
/-- in a held region: the one operation that may come up is not wanted -/
theorem anyH_skip {P : Program} {md : Region.Mode} {ops : Array Oper} {Q : Exit → Act → World → Prop} {S : World → Prop} {fuel : Nat} {listed : Array Bool} {a : Act} {w : World} {i : Nat} {o : Oper} {d : Option Tmp} (hr : Region.ready md ops listed = [i]) (ho : ops[i]? = some o) (hd : o.dst = d)
    (hw : Region.wanted o (yielded ops a.tmps) = false) (hS : S w) (h : wpAnyH P md ops Q S fuel (listed.setIfInBounds i true) (a.put d undef) w) : wpAnyH P md ops Q S (fuel + 1) listed a w :=
  wpAnyH_ready hr (by simp) (AllReadyH.cons ho (fun K' hK => by
    rw [hw, if_neg (by decide), hd]
    exact hK.out _ _ hS (fun _ => h)) AllReadyH.nil)
/-- in a held region: an operation that only reckons is taken -/
theorem anyH_took {P : Program} {md : Region.Mode} {ops : Array Oper} {Q : Exit → Act → World → Prop} {S : World → Prop} {fuel : Nat} {listed : Array Bool} {a : Act} {w : World} {i : Nat} {o : Oper} {d : Option Tmp} {v : Value} (hi : ops[i]? = some o) (hd : o.dst = d)
    (hs : Region.noSelect ops = true) (hf : Region.free md ops listed i = true) (hr : (Region.ready md ops listed).contains i = true)
    (hQ : ∀ c a w, Q (.panic c) (a.put d v) w → Q (.panic c) a w) (hw : Region.wanted o (yielded ops a.tmps) = true) (hy : ∀ w, S w → (execOp a.eval o).run P w = .ok (.value v) w) (hS : S w)
    (h : wpAnyH P md ops Q S fuel (listed.setIfInBounds i true) (a.put d v) w) : wpAnyH P md ops Q S (fuel + 1) listed a w := by
  subst hd
  exact wpAnyH_take hi hs hf hr hQ (Or.inl ⟨hw, hy⟩) hS h
/-- back into a held region -/
theorem Shut.use {P : Program} {md : Region.Mode} {ops : Array Oper} {Q : Exit → Act → World → Prop} {S : World → Prop} {fuel : Nat} {listed : Array Bool} {K : Act → World → Prop} {a : Act} {w : World}
    (hK : Shut (∀ a w, S w → (S w → wpAnyH P md ops Q S fuel listed a w) → K a w)) (hS : S w) (h : S w → wpAnyH P md ops Q S fuel listed a w) : K a w := hK.out a w hS h
end Go.Proofs.YtiiefpnkpfliiaaGreatDoor

/- KG, KH, LD0. -/
namespace Go.Proofs.YtiiefpnkpfliiaaGreatDoor
open Go.RowKit
set_option linter.unusedVariables false
set_option linter.unusedSimpArgs false

theorem wrap_some (x : Int) : ∃ y, IntKind.u64.wrap x = y ∧ 0 ≤ y ∧ y < 18446744073709551616 := ⟨_, wrapU x, by omega, by omega⟩

end Go.Proofs.YtiiefpnkpfliiaaGreatDoor

/- Walks: Mul of any length; the laws' mul. -/
namespace Go.Proofs.YtiiefpnkpfliiaaGreatDoor
open Go.RowKit Go.Shelf
set_option linter.unusedVariables false
set_option linter.unusedSimpArgs false

set_option maxRecDepth 100000 in
set_option maxHeartbeats 1000000 in
theorem bmul_any (na nb : Bool) (ao bo : Option Addr) (la ca lb cb : Nat) (a b : Int) (w : World) (hx : IntAt w na ao la ca a) (hy : IntAt w nb bo lb cb b) (hl : la ≤ 2147483648) (hl' : lb ≤ 2147483648) :
    Calls Tryz.prog 135 #[.agg #[.bool na, .slice ao la ca], .agg #[.bool nb, .slice bo lb cb]] w fun e w' => NewIntErr w w' e (a * b) := by
  obtain ⟨W, hT⟩ := Two3.mk' w na nb ao bo la ca lb cb
  have hsz := hT.size
  have hc : (if mayB na (mag a.natAbs) && mayB nb (mag b.natAbs) then 0 else 10 : Int) = 0 := by rw [hx.sg, hy.sg, may_int, may_int]; rfl
  have HC : Hid _ := hc
  have HV : Hid (a * b = sgn (na != nb) (a.natAbs * b.natAbs)) := sgn_mul hx.sg hy.sg
  have hRx := hx.later hT.below
  have hRy := hy.later hT.below
  clear hc hx hy
  have KS : Hid (∀ w' : World, Below (w.heap.size + 2) W w' → (Below (w.heap.size + 2) W w' ∧ w'.cell? ⟨w.heap.size, 0, none⟩ = some (.bool na) ∧ w'.cell? ⟨w.heap.size, 1, none⟩ = some (.slice ao la ca) ∧ w'.cell? ⟨w.heap.size + 1, 0, none⟩ = some (.bool nb) ∧ w'.cell? ⟨w.heap.size + 1, 1, none⟩ = some (.slice bo lb cb))) := fun w' h => ⟨h, (h.cell (p := ⟨w.heap.size, 0, none⟩) (by show w.heap.size < _; omega)).trans hT.a.1, (h.cell (p := ⟨w.heap.size, 1, none⟩) (by show w.heap.size < _; omega)).trans hT.a.2, (h.cell (p := ⟨w.heap.size + 1, 0, none⟩) (by show w.heap.size + 1 < _; omega)).trans hT.b.1, (h.cell (p := ⟨w.heap.size + 1, 1, none⟩) (by show w.heap.size + 1 < _; omega)).trans hT.b.2⟩
  have K1 : Hid (∀ w1 w2 : World, (Below (w.heap.size + 2) W w1 ∧ w1.cell? ⟨w.heap.size, 0, none⟩ = some (.bool na) ∧ w1.cell? ⟨w.heap.size, 1, none⟩ = some (.slice ao la ca) ∧ w1.cell? ⟨w.heap.size + 1, 0, none⟩ = some (.bool nb) ∧ w1.cell? ⟨w.heap.size + 1, 1, none⟩ = some (.slice bo lb cb)) → Below w1.heap.size w1 w2 → (Below (w.heap.size + 2) W w2 ∧ w2.cell? ⟨w.heap.size, 0, none⟩ = some (.bool na) ∧ w2.cell? ⟨w.heap.size, 1, none⟩ = some (.slice ao la ca) ∧ w2.cell? ⟨w.heap.size + 1, 0, none⟩ = some (.bool nb) ∧ w2.cell? ⟨w.heap.size + 1, 1, none⟩ = some (.slice bo lb cb))) := fun w1 w2 h hb => KS.out _ (h.1.trans (hb.mono (by have := h.1.size; omega)))
  have K2 : Hid (∀ w1 w2 : World, (Below (w.heap.size + 2) W w1 ∧ w1.cell? ⟨w.heap.size, 0, none⟩ = some (.bool na) ∧ w1.cell? ⟨w.heap.size, 1, none⟩ = some (.slice ao la ca) ∧ w1.cell? ⟨w.heap.size + 1, 0, none⟩ = some (.bool nb) ∧ w1.cell? ⟨w.heap.size + 1, 1, none⟩ = some (.slice bo lb cb)) → Below (w.heap.size + 2) w1 w2 → (Below (w.heap.size + 2) W w2 ∧ w2.cell? ⟨w.heap.size, 0, none⟩ = some (.bool na) ∧ w2.cell? ⟨w.heap.size, 1, none⟩ = some (.slice ao la ca) ∧ w2.cell? ⟨w.heap.size + 1, 0, none⟩ = some (.bool nb) ∧ w2.cell? ⟨w.heap.size + 1, 1, none⟩ = some (.slice bo lb cb))) := fun w1 w2 h hb => KS.out _ (h.1.trans hb)
  go_enter Tryz.func135, Tryz.ntmps135
  go_wp2_with (go_at_call 127; rw [← hT.eq]; refine (checkBoth_any na nb ao bo la ca lb cb _ _ _ hRx.row hRy.row (by omega) (by omega) 0 HC.out).mono ?_; rintro e w1 ⟨rfl, hb1⟩; have hs1 := hb1.size)
  have hbX : Below (w.heap.size + 2) W w1 := hb1.mono (by omega)
  go_region_held3 (fun w' => Below (w.heap.size + 2) W w' ∧ w'.cell? ⟨w.heap.size, 0, none⟩ = some (.bool na) ∧ w'.cell? ⟨w.heap.size, 1, none⟩ = some (.slice ao la ca) ∧ w'.cell? ⟨w.heap.size + 1, 0, none⟩ = some (.bool nb) ∧ w'.cell? ⟨w.heap.size + 1, 1, none⟩ = some (.slice bo lb cb))
    (first
      | exact KS.out _ hbX.drew
      | exact K1.out _ _ (by assumption) (by assumption)
      | exact K2.out _ _ (by assumption) (below_store (Below.refl _ _) (by omega) _ _))
    (first
      | (go_at_call 149; refine (times_any ao bo la ca lb cb _ _ _ (hRx.row.later hb1.drew) (hRy.row.later hb1.drew) (by omega) (by omega)).mono ?_; rintro e w2 ⟨ao2, l2, c2, rfl, ho2, hb2⟩; have hlen2 : l2 ≤ 4294967296 := (by rw [ho2.row.hlen]; have q := mag_len_mul a.natAbs b.natAbs; rw [← hRx.row.hlen, ← hRy.row.hlen] at q; omega))
      | (go_at_call 99; refine (signed_any (na != nb) ao2 l2 c2 _ (by omega)).mono ?_; rintro e w3 ⟨rfl, hb3⟩; obtain ⟨g5, g3, g4⟩ := hT.r.later (bnext hb1.drew (bnext hb2 hb3)) (by omega)))
  go_wp2
  have hN := NewInt.ret (w := w) ((ho2.later hb3).store (r := w.heap.size + 1 + 1) (by show _ < w1.heap.size; omega) (.bool ((na != nb) && decide (0 < l2))) (.slice ao2 l2 c2)) (by show _ ≤ w1.heap.size; omega) HV.out (below_store (bnext hT.below (bnext hb1.drew (bnext hb2 hb3))) (by omega) _ _)
  obtain ⟨n9, ao9, l9, c9, he9, hrest9⟩ := hN
  simp only [Ending.returned.injEq, Value.agg.injEq] at he9
  exact bodyPost_ret (v := .tuple #[.agg #[.bool ((na != nb) && decide (0 < l2)), .slice ao2 l2 c2], .int .i64 0]) (by simp [results, Tryz.results135, go_sem, g3, g4]) rfl
    ⟨n9, ao9, l9, c9, by rw [he9], hrest9⟩
end Go.Proofs.YtiiefpnkpfliiaaGreatDoor

/- Lengths of sums, products, quotients; quotients of products. -/
namespace Go.Proofs.YtiiefpnkpfliiaaGreatDoor
open Go.RowKit
set_option linter.unusedVariables false
set_option linter.unusedSimpArgs false

theorem add_len (a b : Int) : (mag (a + b).natAbs).length ≤ (mag a.natAbs).length + (mag b.natAbs).length + 1 :=
  Nat.le_trans (mag_len_mono (Int.natAbs_add_le a b)) (mag_len_add _ _)
theorem mul_len (a b : Int) : (mag (a * b).natAbs).length ≤ (mag a.natAbs).length + (mag b.natAbs).length := by rw [Int.natAbs_mul]; exact mag_len_mul _ _
/-- a number of at most B limbs -/
def Num (w : World) (neg : Bool) (ao : Option Addr) (l c : Nat) (v : Int) (B : Nat) : Prop := IntAt w neg ao l c v ∧ l ≤ B
theorem Num.later {w w' : World} {neg : Bool} {ao : Option Addr} {l c B : Nat} {v : Int} (h : Num w neg ao l c v B) (hb : Below w.heap.size w w') : Num w' neg ao l c v B := ⟨h.1.later hb, h.2⟩
theorem num_add {B : Nat} {w x : World} {neg n1 n2 : Bool} {ao o1 o2 : Option Addr} {l c l1 c1 l2 c2 A1 A2 : Nat} {a b : Int} (hs : neg = sgB (a + b)) (ho : Own B x .u64 59 ao l c (mag (a + b).natAbs)) (h1 : Num w n1 o1 l1 c1 a A1) (h2 : Num w n2 o2 l2 c2 b A2) : Num x neg ao l c (a + b) (A1 + A2 + 1) := by
  refine ⟨ho.int hs, ?_⟩
  have := add_len a b
  have e1 := h1.1.row.hlen
  have e2 := h2.1.row.hlen
  have e3 := h1.2
  have e4 := h2.2
  rw [ho.row.hlen]; omega
theorem num_mul {B : Nat} {w x : World} {neg n1 n2 : Bool} {ao o1 o2 : Option Addr} {l c l1 c1 l2 c2 A1 A2 : Nat} {a b : Int} (hs : neg = sgB (a * b)) (ho : Own B x .u64 59 ao l c (mag (a * b).natAbs)) (h1 : Num w n1 o1 l1 c1 a A1) (h2 : Num w n2 o2 l2 c2 b A2) : Num x neg ao l c (a * b) (A1 + A2) := by
  refine ⟨ho.int hs, ?_⟩
  have := mul_len a b
  have e1 := h1.1.row.hlen
  have e2 := h2.1.row.hlen
  have e3 := h1.2
  have e4 := h2.2
  rw [ho.row.hlen]; omega
theorem floor_mul {a b q r : Int} (h : FloorOf (a * b) b q r) (hb : b ≠ 0) : q = a ∧ r = 0 := by
  obtain ⟨h1, h2⟩ := h
  have e : r = b * (a - q) := by rw [Int.mul_sub, Int.mul_comm b a]; omega
  have hd : a - q = 0 := by
    obtain ⟨d, hd⟩ : ∃ d, a - q = d := ⟨_, rfl⟩
    rw [hd] at e ⊢
    rcases Int.lt_trichotomy d 0 with h3 | h3 | h3
    · exfalso
      rcases h2 with ⟨p1, p2, p3⟩ | ⟨p1, p2, p3⟩
      · have : b * d ≤ b * (-1) := Int.mul_le_mul_of_nonneg_left (by omega) (by omega)
        omega
      · have : (-b) * d ≤ (-b) * (-1) := Int.mul_le_mul_of_nonneg_left (by omega) (by omega)
        simp only [Int.neg_mul] at this
        omega
    · exact h3
    · exfalso
      rcases h2 with ⟨p1, p2, p3⟩ | ⟨p1, p2, p3⟩
      · have : b * 1 ≤ b * d := Int.mul_le_mul_of_nonneg_left (by omega) (by omega)
        omega
      · have : (-b) * 1 ≤ (-b) * d := Int.mul_le_mul_of_nonneg_left (by omega) (by omega)
        simp only [Int.neg_mul] at this
        omega
  rw [hd] at e
  exact ⟨by omega, by simpa using e⟩

theorem floor_small {v u q r : Int} (h : FloorOf v u q r) (hu : u ≠ 0) : (mag q.natAbs).length ≤ (mag v.natAbs).length + (mag u.natAbs).length + 1 ∧ (mag r.natAbs).length ≤ (mag u.natAbs).length := by
  obtain ⟨h1, h2⟩ := h
  have hr : r.natAbs ≤ u.natAbs := by omega
  refine ⟨?_, mag_len_mono hr⟩
  have e : u * q = v - r := by omega
  have e2 : u.natAbs * q.natAbs = (v - r).natAbs := by rw [← e, Int.natAbs_mul]
  have h3 : 1 * q.natAbs ≤ u.natAbs * q.natAbs := Nat.mul_le_mul_right _ (by omega)
  have h4 : q.natAbs ≤ v.natAbs + u.natAbs := by omega
  exact Nat.le_trans (mag_len_mono h4) (mag_len_add _ _)
theorem Fresh.alloc' {X : World} {r : Nat} {o : Obj} (h : Fresh X r) : Fresh (X.alloc o) r := by
  have hb : Below X.heap.size X (X.alloc o) := (Below.refl _ _).alloc (Nat.le_refl _) _
  exact h.later hb (cell_lt h.2.1)
theorem Fresh.drew' {X : World} {r : Nat} (h : Fresh X r) : Fresh X.drew r := ⟨h.1, h.2.1, h.2.2⟩
theorem fresh_mk {W : World} {r : Nat} (h1 : ∀ j, W.frozen? ⟨r, j, none⟩ = false) (h2 : W.cell? ⟨r, 0, none⟩ = some (.bool false)) (h3 : W.cell? ⟨r, 1, none⟩ = some (.slice none 0 0)) : Fresh W r := ⟨h1, h2, h3⟩
theorem Fresh.next {W w2 : World} {r : Nat} (k : Fresh W r) (h : Below W.heap.size W w2) : Fresh w2 r := k.later h (cell_lt k.2.1)
theorem Fresh.new1 (w : World) : Fresh ((w.alloc (.cells #[.bool false, .slice none 0 0] 26)).alloc (.cells #[.bool false, .slice none 0 0] 26)) (w.heap.size + 1) := by
  have := Fresh.new (w.alloc (.cells #[.bool false, .slice none 0 0] 26))
  simpa using this
theorem with_held {S : World → Prop} {P : Program} {f : FuncId} {args : Array Value} {W : World} {Q : Ending → World → Prop} (h : S W) (k : S W → Calls P f args W Q) : Calls P f args W Q := k h
theorem own_alloc {B : Nat} {X : World} {k : IntKind} {t : TypeId} {ao : Option Addr} {l c : Nat} {zs : List Int} {o : Obj} (h : Own B X k t ao l c zs) : Own B (X.alloc o) k t ao l c zs := h.later ((Below.refl _ _).alloc (Nat.le_refl _) _)
theorem own_set {B : Nat} {X : World} {k : IntKind} {t : TypeId} {ao : Option Addr} {l c r j : Nat} {zs : List Int} {v : Value} (h : Own B X k t ao l c zs) (hr : r < B) : Own B (X.setCell ⟨r, j, none⟩ v) k t ao l c zs := h.setOther (a := ⟨r, j, none⟩) hr v
theorem below_alloc {B : Nat} {w X : World} {o : Obj} (h : Below B w X) (hB : B ≤ w.heap.size) : Below B w (X.alloc o) := h.alloc (Nat.le_trans hB h.size) o
theorem below_set {B r j : Nat} {w X : World} {v : Value} (h : Below B w X) (hr : B ≤ r) : Below B w (X.setCell ⟨r, j, none⟩ v) := h.setCell (p := ⟨r, j, none⟩) hr v
/-- two results of a division, in variables of their own -/
def TwoVars (U wx : World) (r1 r2 : Nat) (v u : Int) : Prop := ∃ n7 ao7 l7 c7 n8 ao8 l8 c8 q r, Boxed wx r1 n7 ao7 l7 c7 ∧ Boxed wx r2 n8 ao8 l8 c8 ∧ (r1 < wx.heap.size ∧ r2 < wx.heap.size) ∧ Num wx n7 ao7 l7 c7 q 2000 ∧ Num wx n8 ao8 l8 c8 r 2000 ∧ q * u + r = v ∧ Below U.heap.size U wx
theorem two_a {U y6 : World} {B l7 c7 l8 c8 : Nat} {n7 n8 : Bool} {ao7 ao8 : Option Addr} {qq rr v u : Int} (hO : Hid (Own B y6 .u64 59 ao7 l7 c7 (mag qq.natAbs) ∧ Own B y6 .u64 59 ao8 l8 c8 (mag rr.natAbs))) (hD : Hid ((n7 = sgB qq ∧ n8 = sgB rr) ∧ (l7 ≤ 2000 ∧ l8 ≤ 2000) ∧ qq * u + rr = v)) (hb : Below U.heap.size U y6) : TwoVars U ((y6.alloc (.cells #[.bool n7, .slice ao7 l7 c7] 26)).alloc (.cells #[.bool n8, .slice ao8 l8 c8] 26)) y6.heap.size (y6.heap.size + 1) v u :=
  ⟨n7, ao7, l7, c7, n8, ao8, l8, c8, qq, rr, ⟨by simp [go_sem], by simp [go_sem]⟩, ⟨by simp [go_sem], by simp [go_sem]⟩, ⟨by simp; omega, by simp⟩, ⟨(own_alloc (own_alloc hO.out.1)).int hD.out.1.1, hD.out.2.1.1⟩, ⟨(own_alloc (own_alloc hO.out.2)).int hD.out.1.2, hD.out.2.1.2⟩, hD.out.2.2, below_alloc (below_alloc hb (Nat.le_refl _)) (Nat.le_refl _)⟩
theorem two_b {U y6 : World} {B l7 c7 l8 c8 : Nat} {n7 n8 : Bool} {ao7 ao8 : Option Addr} {qq rr v u : Int} (hO : Hid (Own B y6 .u64 59 ao7 l7 c7 (mag qq.natAbs) ∧ Own B y6 .u64 59 ao8 l8 c8 (mag rr.natAbs))) (hD : Hid ((n7 = sgB qq ∧ n8 = sgB rr) ∧ (l7 ≤ 2000 ∧ l8 ≤ 2000) ∧ qq * u + rr = v)) (hb : Below U.heap.size U y6) : TwoVars U ((y6.alloc (.cells #[.bool n8, .slice ao8 l8 c8] 26)).alloc (.cells #[.bool n7, .slice ao7 l7 c7] 26)) (y6.heap.size + 1) y6.heap.size v u :=
  ⟨n7, ao7, l7, c7, n8, ao8, l8, c8, qq, rr, ⟨by simp [go_sem], by simp [go_sem]⟩, ⟨by simp [go_sem], by simp [go_sem]⟩, ⟨by simp, by simp; omega⟩, ⟨(own_alloc (own_alloc hO.out.1)).int hD.out.1.1, hD.out.2.1.1⟩, ⟨(own_alloc (own_alloc hO.out.2)).int hD.out.1.2, hD.out.2.1.2⟩, hD.out.2.2, below_alloc (below_alloc hb (Nat.le_refl _)) (Nat.le_refl _)⟩
theorem two_c {r : Nat} {U y6 : World} {B l7 c7 l8 c8 : Nat} {n7 n8 : Bool} {ao7 ao8 : Option Addr} {qq rr v u : Int} (hO : Hid (Own B y6 .u64 59 ao7 l7 c7 (mag qq.natAbs) ∧ Own B y6 .u64 59 ao8 l8 c8 (mag rr.natAbs))) (hD : Hid ((n7 = sgB qq ∧ n8 = sgB rr) ∧ (l7 ≤ 2000 ∧ l8 ≤ 2000) ∧ qq * u + rr = v)) (hb : Below U.heap.size U y6) (hF : Fresh y6 r) (hr : r < B) (hU : U.heap.size ≤ r) : TwoVars U (((y6.setCell ⟨r, 0, none⟩ (.bool n7)).setCell ⟨r, 1, none⟩ (.slice ao7 l7 c7)).alloc (.cells #[.bool n8, .slice ao8 l8 c8] 26)) r y6.heap.size v u := by
  obtain ⟨_, f3, f4⟩ := hF
  have hl : r < y6.heap.size := cell_lt f3
  have hn : r ≠ y6.heap.size := by omega
  exact ⟨n7, ao7, l7, c7, n8, ao8, l8, c8, qq, rr, ⟨by simp [go_sem, f3, f4, hl, hn], by simp [go_sem, f3, f4, hl, hn]⟩, ⟨by simp [go_sem], by simp [go_sem]⟩, ⟨by simp; omega, by simp⟩, ⟨(own_alloc (own_set (own_set hO.out.1 hr) hr)).int hD.out.1.1, hD.out.2.1.1⟩, ⟨(own_alloc (own_set (own_set hO.out.2 hr) hr)).int hD.out.1.2, hD.out.2.1.2⟩, hD.out.2.2, below_alloc (below_set (below_set hb hU) hU) (Nat.le_refl _)⟩
theorem two_d {r : Nat} {U y6 : World} {B l7 c7 l8 c8 : Nat} {n7 n8 : Bool} {ao7 ao8 : Option Addr} {qq rr v u : Int} (hO : Hid (Own B y6 .u64 59 ao7 l7 c7 (mag qq.natAbs) ∧ Own B y6 .u64 59 ao8 l8 c8 (mag rr.natAbs))) (hD : Hid ((n7 = sgB qq ∧ n8 = sgB rr) ∧ (l7 ≤ 2000 ∧ l8 ≤ 2000) ∧ qq * u + rr = v)) (hb : Below U.heap.size U y6) (hF : Fresh y6 r) (hr : r < B) (hU : U.heap.size ≤ r) : TwoVars U (((y6.setCell ⟨r, 0, none⟩ (.bool n8)).setCell ⟨r, 1, none⟩ (.slice ao8 l8 c8)).alloc (.cells #[.bool n7, .slice ao7 l7 c7] 26)) y6.heap.size r v u := by
  obtain ⟨_, f3, f4⟩ := hF
  have hl : r < y6.heap.size := cell_lt f3
  have hn : r ≠ y6.heap.size := by omega
  exact ⟨n7, ao7, l7, c7, n8, ao8, l8, c8, qq, rr, ⟨by simp [go_sem], by simp [go_sem]⟩, ⟨by simp [go_sem, f3, f4, hl, hn], by simp [go_sem, f3, f4, hl, hn]⟩, ⟨by simp, by simp; omega⟩, ⟨(own_alloc (own_set (own_set hO.out.1 hr) hr)).int hD.out.1.1, hD.out.2.1.1⟩, ⟨(own_alloc (own_set (own_set hO.out.2 hr) hr)).int hD.out.1.2, hD.out.2.1.2⟩, hD.out.2.2, below_alloc (below_set (below_set hb hU) hU) (Nat.le_refl _)⟩
theorem two_e {r r' : Nat} {U y6 : World} {B l7 c7 l8 c8 : Nat} {n7 n8 : Bool} {ao7 ao8 : Option Addr} {qq rr v u : Int} (hO : Hid (Own B y6 .u64 59 ao7 l7 c7 (mag qq.natAbs) ∧ Own B y6 .u64 59 ao8 l8 c8 (mag rr.natAbs))) (hD : Hid ((n7 = sgB qq ∧ n8 = sgB rr) ∧ (l7 ≤ 2000 ∧ l8 ≤ 2000) ∧ qq * u + rr = v)) (hb : Below U.heap.size U y6) (hF : Fresh y6 r) (hF' : Fresh y6 r') (hne : r ≠ r') (hr : r < B) (hr' : r' < B) (hU : U.heap.size ≤ r) (hU' : U.heap.size ≤ r') : TwoVars U ((((y6.setCell ⟨r, 0, none⟩ (.bool n7)).setCell ⟨r, 1, none⟩ (.slice ao7 l7 c7)).setCell ⟨r', 0, none⟩ (.bool n8)).setCell ⟨r', 1, none⟩ (.slice ao8 l8 c8)) r r' v u := by
  obtain ⟨_, f3, f4⟩ := hF
  obtain ⟨_, k3, k4⟩ := hF'
  have hl : r < y6.heap.size := cell_lt f3
  have hl' : r' < y6.heap.size := cell_lt k3
  have hne' : r' ≠ r := Ne.symm hne
  exact ⟨n7, ao7, l7, c7, n8, ao8, l8, c8, qq, rr, ⟨by simp [go_sem, f3, f4, k3, k4, hne, hne'], by simp [go_sem, f3, f4, k3, k4, hne, hne']⟩, ⟨by simp [go_sem, f3, f4, k3, k4, hne, hne'], by simp [go_sem, f3, f4, k3, k4, hne, hne']⟩, ⟨by simp; omega, by simp; omega⟩, ⟨(own_set (own_set (own_set (own_set hO.out.1 hr) hr) hr') hr').int hD.out.1.1, hD.out.2.1.1⟩, ⟨(own_set (own_set (own_set (own_set hO.out.2 hr) hr) hr') hr').int hD.out.1.2, hD.out.2.1.2⟩, hD.out.2.2, below_set (below_set (below_set (below_set hb hU) hU) hU') hU'⟩
end Go.Proofs.YtiiefpnkpfliiaaGreatDoor
