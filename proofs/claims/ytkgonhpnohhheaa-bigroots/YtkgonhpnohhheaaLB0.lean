/-
  Numbers that lie in variables; lengths of powers.
-/
import Derived.Test.YtkgonhpnohhheaaEO
import Derived.Test.YtkgonhpnohhheaaLA0
import Derived.Deep.RegionHeld3
namespace Go.Proofs.Ytkgonhpnohhheaa
open Go.RowKit
set_option linter.unusedVariables false
set_option linter.unusedSimpArgs false

/-- a number in a variable of its own -/
structure InVar (W : World) (r : Nat) (neg : Bool) (ao : Option Addr) (l c : Nat) (v : Int) : Prop where
  box : Boxed W r neg ao l c
  int : IntAt W neg ao l c v
  lt : r < W.heap.size
theorem InVar.later {W w' : World} {r : Nat} {neg : Bool} {ao : Option Addr} {l c : Nat} {v : Int} (h : InVar W r neg ao l c v) (hb : Below W.heap.size W w') : InVar w' r neg ao l c v :=
  ⟨h.box.later hb h.lt, h.int.later hb, Nat.lt_of_lt_of_le h.lt hb.size⟩
theorem InVar.new {W X y : World} {neg : Bool} {ao : Option Addr} {l c : Nat} {v : Int} (hX : Below W.heap.size W X) (hs : neg = sgB v) (ho : Own X.heap.size y .u64 52 ao l c (mag v.natAbs)) (hb : Below X.heap.size X y) :
    Hid (InVar (y.alloc (.cells #[.bool neg, .slice ao l c] 26)) y.heap.size neg ao l c v ∧ Below W.heap.size W (y.alloc (.cells #[.bool neg, .slice ao l c] 26)) ∧ Below X.heap.size X (y.alloc (.cells #[.bool neg, .slice ao l c] 26))) := by
  have h1 : Below y.heap.size y (y.alloc (.cells #[.bool neg, .slice ao l c] 26)) := (Below.refl _ _).alloc (Nat.le_refl _) _
  have h2 : Below X.heap.size X (y.alloc (.cells #[.bool neg, .slice ao l c] 26)) := hb.trans (below_less h1 hb.size)
  exact ⟨⟨⟨by simp [go_sem], by simp [go_sem]⟩, (ho.int hs).later h1, by simp⟩, bnext hX h2, h2⟩
theorem sgB_nat (a : Nat) : sgB (a : Int) = false := by
  unfold sgB; exact decide_eq_false (by omega)
theorem mag_len_pow (a k : Nat) : (mag (a ^ k)).length ≤ (mag a).length * k + 1 := by
  induction k with
  | zero => rw [Nat.pow_zero]; have := mag_len_one (n := 1) (by decide); omega
  | succ k ih =>
    rw [Nat.pow_succ]
    have := mag_len_mul (a ^ k) a
    rw [Nat.mul_succ]; omega
theorem pow_len_le {a k A K M : Nat} (ha : (mag a).length ≤ A) (hk : k ≤ K) (hM : A * K + 1 ≤ M) : (mag (a ^ k)).length ≤ M := by
  have h1 := mag_len_pow a k
  have h2 := Nat.mul_le_mul ha hk
  omega
theorem babs_nat (neg : Bool) (ao : Option Addr) (len cap : Nat) (v : Int) (w : World) (hx : IntAt w neg ao len cap v) (hl : len ≤ 4294967296) :
    Calls Try.prog 15 #[.agg #[.bool neg, .slice ao len cap]] w fun e w' => ∃ ao2 l2 c2, e = .returned (.agg #[.bool false, .slice ao2 l2 c2]) ∧ Own w.heap.size w' .u64 52 ao2 l2 c2 (mag v.natAbs) ∧ IntAt w' false ao2 l2 c2 (v.natAbs : Int) ∧ l2 = len ∧ Below w.heap.size w w' :=
  (babs_any neg ao len cap v w hx hl).mono fun e w' h => by
    obtain ⟨n2, ao2, l2, c2, rfl, hs2, ho2, hb2⟩ := h
    rw [sgB_nat] at hs2; subst hs2
    rw [Int.natAbs_natCast] at ho2
    exact ⟨ao2, l2, c2, rfl, ho2, ⟨(sgB_nat _).symm, by rw [Int.natAbs_natCast]; exact ho2.row⟩, by rw [ho2.row.hlen, ← hx.row.hlen], hb2⟩
/-- the root of a power, one more often, is not above the number -/
theorem root_more {v n r : Nat} (hv : 0 < v) (h : IsRoot (v ^ n) (n + 1) r) : r ≤ v := by
  rcases Nat.lt_or_ge v r with h1 | h1
  · exfalso
    have h2 := npow_le (n + 1) (show v + 1 ≤ r from h1)
    have h3 : v ^ n < (v + 1) ^ (n + 1) := by
      have h4 : v ^ n ≤ v ^ (n + 1) := Nat.pow_le_pow_right hv (by omega)
      have h5 : v ^ (n + 1) < (v + 1) ^ (n + 1) := Nat.pow_lt_pow_left (by omega) (by omega)
      omega
    have := h.1
    omega
  · exact h1
theorem root_same {v n : Nat} (hn : 0 < n) : IsRoot (v ^ n) n v := ⟨Nat.le_refl _, Nat.pow_lt_pow_left (by omega) (by omega)⟩
theorem mul_facts {W X ym : World} {nm : Bool} {aom : Option Addr} {lm cm n : Nat} {v u : Int} (hs : nm = sgB (v * u)) (ho : Own X.heap.size ym .u64 52 aom lm cm (mag (v * u).natAbs)) (hb : Below X.heap.size X ym) (hX : Below W.heap.size W X) (hv : (mag v.natAbs).length ≤ 3) (hu : (mag u.natAbs).length ≤ 3) (hn : n ≤ 8) :
    Hid (IntAt ym nm aom lm cm (v * u) ∧ Below W.heap.size W ym ∧ lm < 40 ∧ (mag ((v * u).natAbs ^ (n / 2))).length < 40 ∧ (mag ((v * u).natAbs ^ n)).length < 80) := by
  have h1 := mag_len_mul v.natAbs u.natAbs
  rw [← Int.natAbs_mul] at h1
  have h2 : (mag (v * u).natAbs).length ≤ 6 := by omega
  exact ⟨ho.int hs, bnext hX hb, by rw [ho.row.hlen]; omega, Nat.lt_of_le_of_lt (pow_len_le (K := 4) h2 (by omega) (Nat.le_refl _)) (by decide), Nat.lt_of_le_of_lt (pow_len_le (K := 8) h2 hn (Nat.le_refl _)) (by decide)⟩
theorem mul_got {x : World} {B : Nat} {neg : Bool} {ao : Option Addr} {l c l1 l2 : Nat} {a b : Int} (hs : neg = sgB (a * b)) (ho : Own B x .u64 52 ao l c (mag (a * b).natAbs)) (h1 : l1 = (mag a.natAbs).length) (h2 : l2 = (mag b.natAbs).length) (hl1 : l1 ≤ 25) (hl2 : l2 ≤ 25) :
    Hid (IntAt x neg ao l c (a * b) ∧ l ≤ 100) := by
  have h := mag_len_mul a.natAbs b.natAbs
  rw [← Int.natAbs_mul] at h
  exact ⟨ho.int hs, by rw [ho.row.hlen]; omega⟩
theorem root_short {v n : Nat} (hv : (mag v).length ≤ 3) (hn : n ≤ 8) : (mag (2 ^ (n + 1) * v ^ n)).length < 40 := by
  have h1 := mag_len_mul (2 ^ (n + 1)) (v ^ n)
  have h2 := pow_len_le (K := 8) hv hn (Nat.le_refl _)
  have h3 := mag_len_one (n := 2 ^ (n + 1)) (Nat.lt_of_le_of_lt (Nat.pow_le_pow_right (n := 2) (by decide) (show n + 1 ≤ 9 by omega)) (by decide))
  omega
theorem root_short2 {v n k : Nat} (hv : (mag v).length ≤ 3) (hn : n ≤ 8) (hk : k ≤ 9) : (mag (2 ^ k * v ^ n)).length < 40 := by
  have h1 := mag_len_mul (2 ^ k) (v ^ n)
  have h2 := pow_len_le (K := 8) hv hn (Nat.le_refl _)
  have h3 := mag_len_one (n := 2 ^ k) (Nat.lt_of_le_of_lt (Nat.pow_le_pow_right (n := 2) (by decide) hk) (by decide))
  omega
theorem cmpI_pos {a b : Int} (h : 0 < cmpI a b) : b < a := by
  rcases Int.lt_trichotomy a b with h1 | h1 | h1
  · rw [cmpI_lt h1] at h; omega
  · rw [cmpI_eq h1] at h; omega
  · exact h1
theorem powers_case {v : Int} {n r : Nat} {c : Int} (hr : IsRoot (v.natAbs ^ n) (n + 1) r) (hc : cmpI (r : Int) (v.natAbs : Int) = c) (h : 0 < c) : v = 0 ∧ n = 0 := by
  rw [← hc] at h
  have h1 := cmpI_pos h
  have h2 : v.natAbs = 0 := by
    rcases Nat.eq_zero_or_pos v.natAbs with e | e
    · exact e
    · have := root_more e hr; omega
  refine ⟨by omega, ?_⟩
  rcases Nat.eq_zero_or_pos n with e | e
  · exact e
  · exfalso
    rw [h2, Nat.zero_pow e] at hr
    have h3 := root_le hr (by omega)
    omega
/-- in a held region: the one operation that may come up is not wanted -/
theorem anyH_skip {P : Program} {md : Region.Mode} {ops : Array Oper} {Q : Exit → Act → World → Prop} {S : World → Prop} {fuel : Nat} {listed : Array Bool} {a : Act} {w : World} {i : Nat} {o : Oper} {d : Option Tmp} (hr : Region.ready md ops listed = [i]) (ho : ops[i]? = some o) (hd : o.dst = d)
    (hw : Region.wanted o (yielded ops a.tmps) = false) (hS : S w) (h : wpAnyH P md ops Q S fuel (listed.setIfInBounds i true) (a.put d undef) w) : wpAnyH P md ops Q S (fuel + 1) listed a w :=
  wpAnyH_ready hr (by simp) (AllReadyH.cons ho (fun K' hK => by
    rw [hw, if_neg (by decide), hd]
    exact hK.out _ _ hS (fun _ => h)) AllReadyH.nil)
/-- in a held region: an operation that only reckons is taken -/
theorem anyH_took {P : Program} {md : Region.Mode} {ops : Array Oper} {Q : Exit → Act → World → Prop} {S : World → Prop} {fuel : Nat} {listed : Array Bool} {a : Act} {w : World} {i : Nat} {o : Oper} {d : Option Tmp} {v : Value} (hi : ops[i]? = some o) (hd : o.dst = d)
    (hs : Region.noSelect ops = true) (hf : Region.free md ops listed i = true) (hr : (Region.ready md ops listed).contains i = true)
    (hQ : ∀ c a w, Q (.panic c) (a.put d v) w → Q (.panic c) a w) (hw : Region.wanted o (yielded ops a.tmps) = true) (hy : ∀ w, S w → (execOp a.eval o).run P w = .ok (.value v) w) (hS : S w)
    (h : wpAnyH P md ops Q S fuel (listed.setIfInBounds i true) (a.put d v) w) : wpAnyH P md ops Q S (fuel + 1) listed a w := by
  subst hd
  exact wpAnyH_take hi hs hf hr hQ (Or.inl ⟨hw, hy⟩) hS h
/-- back into a held region -/
theorem Shut.use {P : Program} {md : Region.Mode} {ops : Array Oper} {Q : Exit → Act → World → Prop} {S : World → Prop} {fuel : Nat} {listed : Array Bool} {K : Act → World → Prop} {a : Act} {w : World}
    (hK : Shut (∀ a w, S w → (S w → wpAnyH P md ops Q S fuel listed a w) → K a w)) (hS : S w) (h : S w → wpAnyH P md ops Q S fuel listed a w) : K a w := hK.out a w hS h
end Go.Proofs.Ytkgonhpnohhheaa
