/-
  MA: plain mathematics modulo a prime: primes, binomials, Frobenius, Fermat, reciprocals; polynomials modulo p, modulo p and g; products and divisions place by place.
-/
import Derived.Test.YtnniipekcbjloaaDoorPU04
import Derived.Shelf.Spec.TrailingZeros
import Derived.Lib.ItoaNum
import Derived.Deep.DeepCutAuto
import Derived.LoopN
namespace Go.Proofs.YtnniipekcbjloaaDoor
open Go.RowKit
set_option linter.unusedVariables false
set_option linter.unusedSimpArgs false
/-- p is a prime -/
structure IsPr (p : Int) : Prop where
  two : 2 ≤ p
  no : ∀ d : Int, 2 ≤ d → d < p → ¬ d ∣ p
theorem IsPr.of_sq {p : Int} (h2 : 2 ≤ p) (h : ∀ d : Int, 2 ≤ d → d * d ≤ p → p % d ≠ 0) : IsPr p := by
  refine ⟨h2, fun d hd hlt hdv => ?_⟩
  obtain ⟨e, he⟩ := hdv
  have he0 : 0 < e := by
    by_cases h0 : 0 < e
    · exact h0
    · have : d * e ≤ d * 0 := Int.mul_le_mul_of_nonneg_left (by omega) (by omega)
      omega
  have he2 : 2 ≤ e := by
    by_cases h1 : e = 1
    · subst h1; omega
    · omega
  by_cases hs : d * d ≤ p
  · exact h d hd hs (by rw [he]; exact Int.mul_emod_right d e)
  · have hed : e < d := by
      by_cases h1 : e < d
      · exact h1
      · have : d * d ≤ d * e := Int.mul_le_mul_of_nonneg_left (by omega) (by omega)
        omega
    have h3 : e * e ≤ d * e := Int.mul_le_mul_of_nonneg_right (by omega) (by omega)
    exact h e he2 (by omega) (by rw [he]; exact Int.mul_emod_left d e)
theorem IsPr.gcd {p a : Int} (h : IsPr p) (ha : ¬ p ∣ a) : Int.gcd a p = 1 := by
  have h1 : ((Int.gcd a p : Nat) : Int) ∣ p := Int.gcd_dvd_right a p
  have h2 : ((Int.gcd a p : Nat) : Int) ∣ a := Int.gcd_dvd_left a p
  have hp := h.two
  have h0 : Int.gcd a p ≠ 0 := by
    intro e; rw [e] at h1; have := Int.zero_dvd.1 h1; omega
  have hle : ((Int.gcd a p : Nat) : Int) ≤ p := Int.le_of_dvd (by omega) h1
  by_cases h3 : ((Int.gcd a p : Nat) : Int) = p
  · rw [h3] at h2; exact absurd h2 ha
  · by_cases h4 : Int.gcd a p = 1
    · exact h4
    · exact absurd h1 (h.no _ (by omega) (by omega))
theorem IsPr.dvd_mul {p a b : Int} (h : IsPr p) (hd : p ∣ a * b) : p ∣ a ∨ p ∣ b := by
  by_cases ha : p ∣ a
  · exact Or.inl ha
  · right
    have h1 := h.gcd ha
    rw [Int.gcd_eq_natAbs_gcd_natAbs] at h1
    have h2 : p.natAbs ∣ a.natAbs * b.natAbs := by rw [← Int.natAbs_mul]; exact Int.natAbs_dvd_natAbs.2 hd
    exact Int.natAbs_dvd_natAbs.1 (Nat.Coprime.dvd_of_dvd_mul_left (by rw [Nat.Coprime, Nat.gcd_comm]; exact h1) h2)
theorem IsPr.small {p a : Int} (h : IsPr p) (h0 : 0 < a) (h1 : a < p) : ¬ p ∣ a := fun hd => by
  have := Int.le_of_dvd h0 hd; omega
/-- how many ways to take k of n -/
def cho : Nat → Nat → Nat
  | _, 0 => 1
  | 0, _ + 1 => 0
  | n + 1, k + 1 => cho n k + cho n (k + 1)
theorem cho_right (n : Nat) : cho n 0 = 1 := by cases n <;> rfl
theorem cho_gt : ∀ (n k : Nat), n < k → cho n k = 0
  | 0, _ + 1, _ => rfl
  | n + 1, k + 1, h => by rw [cho, cho_gt n k (by omega), cho_gt n (k + 1) (by omega)]
theorem cho_self : ∀ n : Nat, cho n n = 1
  | 0 => rfl
  | n + 1 => by rw [cho, cho_self n, cho_gt n (n + 1) (by omega)]
theorem cho_mul : ∀ n k : Nat, (k + 1) * cho (n + 1) (k + 1) = (n + 1) * cho n k := by
  intro n
  induction n with
  | zero => intro k; cases k with
    | zero => rfl
    | succ k => simp [cho]
  | succ n ih =>
    intro k
    rw [cho]
    cases k with
    | zero =>
      have := ih 0
      rw [cho_right] at this ⊢
      omega
    | succ j =>
      have h1 := ih j
      have h2 := ih (j + 1)
      have h3 : cho (n + 1) (j + 1) = cho n j + cho n (j + 1) := rfl
      have e : (j + 1 + 1) * (cho (n + 1) (j + 1) + cho (n + 1) (j + 1 + 1)) = (j + 1) * cho (n + 1) (j + 1) + cho (n + 1) (j + 1) + (j + 1 + 1) * cho (n + 1) (j + 1 + 1) := by grind
      rw [e, h1, h2, h3]; grind
theorem IsPr.chop {p : Int} (h : IsPr p) {k : Nat} (h1 : 1 ≤ k) (h2 : (k : Int) < p) : ∃ c : Int, (cho p.toNat k : Int) = p * c := by
  have hp := h.two
  obtain ⟨j, rfl⟩ : ∃ j, k = j + 1 := ⟨k - 1, by omega⟩
  obtain ⟨n, hn⟩ : ∃ n, p.toNat = n + 1 := ⟨p.toNat - 1, by omega⟩
  have e := cho_mul n j
  have e' : ((j + 1 : Nat) : Int) * ((cho (n + 1) (j + 1) : Nat) : Int) = p * ((cho n j : Nat) : Int) := by
    rw [← Int.natCast_mul, e, Int.natCast_mul]; congr 1; omega
  have hd : p ∣ ((j + 1 : Nat) : Int) * ((cho (n + 1) (j + 1) : Nat) : Int) := ⟨_, e'⟩
  rw [hn]
  rcases h.dvd_mul hd with h3 | h3
  · exact absurd h3 (h.small (by omega) h2)
  · exact h3
/-- the first m parts of (a + b)^n multiplied out -/
def bs (n : Nat) (a b : Int) : Nat → Int
  | 0 => 0
  | m + 1 => bs n a b m + cho n m * a ^ m * b ^ (n - m)
theorem bs_one (n : Nat) (a b : Int) : bs n a b 1 = b ^ n := by simp [bs, cho_right]
theorem bs_step (n : Nat) (a b : Int) : ∀ m, m ≤ n → bs (n + 1) a b (m + 1) = b * bs n a b (m + 1) + a * bs n a b m := by
  intro m
  induction m with
  | zero => intro _; rw [bs_one, bs_one]; simp [bs, Int.pow_succ]; grind
  | succ m ih =>
    intro hm
    have h1 := ih (by omega)
    rw [bs, h1]
    have e1 : bs n a b (m + 1 + 1) = bs n a b (m + 1) + cho n (m + 1) * a ^ (m + 1) * b ^ (n - (m + 1)) := rfl
    have e2 : bs n a b (m + 1) = bs n a b m + cho n m * a ^ m * b ^ (n - m) := rfl
    have e3 : b ^ (n - m) = b * b ^ (n - (m + 1)) := by
      rw [show n - m = (n - (m + 1)) + 1 by omega, Int.pow_succ]; grind
    have e4 : n + 1 - (m + 1) = n - m := by omega
    have e5 : (cho (n + 1) (m + 1) : Int) = (cho n m : Int) + (cho n (m + 1) : Int) := by
      rw [show cho (n + 1) (m + 1) = cho n m + cho n (m + 1) from rfl]; omega
    rw [e4, e5, e1, e2, e3, Int.pow_succ]
    generalize b ^ (n - (m + 1)) = B
    generalize a ^ m = A
    generalize (cho n m : Int) = c
    generalize (cho n (m + 1) : Int) = d
    generalize bs n a b m = S
    grind
theorem binom (n : Nat) (a b : Int) : (a + b) ^ n = bs n a b (n + 1) := by
  induction n with
  | zero => simp [bs, cho]
  | succ n ih =>
    have h1 := bs_step n a b n (Nat.le_refl _)
    have e1 : bs (n + 1) a b (n + 1 + 1) = bs (n + 1) a b (n + 1) + cho (n + 1) (n + 1) * a ^ (n + 1) * b ^ (n + 1 - (n + 1)) := rfl
    have e2 : bs n a b (n + 1) = bs n a b n + cho n n * a ^ n * b ^ (n - n) := rfl
    rw [Int.pow_succ, ih, e1, h1, cho_self, e2, cho_self]
    simp only [Nat.sub_self, Int.pow_zero, Int.pow_succ]; grind
/-- a function that is a polynomial's -/
def IsP (A : Int → Int) : Prop := ∃ l : List Int, ∀ x, A x = ev l x
theorem IsP.ev (l : List Int) : IsP (fun x => ev l x) := ⟨l, fun _ => rfl⟩
theorem IsP.const (c : Int) : IsP (fun _ => c) := ⟨[c], fun x => by simp [Go.Proofs.YtnniipekcbjloaaDoor.ev]⟩
theorem IsP.id : IsP (fun x => x) := ⟨[0, 1], fun x => by simp [Go.Proofs.YtnniipekcbjloaaDoor.ev]⟩
theorem IsP.add {A B : Int → Int} (ha : IsP A) (hb : IsP B) : IsP (fun x => A x + B x) := by
  obtain ⟨a, ha⟩ := ha; obtain ⟨b, hb⟩ := hb
  exact ⟨addTo a b, fun x => by show A x + B x = _; rw [addTo_ev, ha, hb]⟩
theorem IsP.mul {A B : Int → Int} (ha : IsP A) (hb : IsP B) : IsP (fun x => A x * B x) := by
  obtain ⟨a, ha⟩ := ha; obtain ⟨b, hb⟩ := hb
  exact ⟨mulL a b, fun x => by show A x * B x = _; rw [mulL_ev, ha, hb]⟩
theorem IsP.pow {A : Int → Int} (ha : IsP A) (n : Nat) : IsP (fun x => A x ^ n) := by
  induction n with
  | zero => exact ⟨[1], fun x => by simp [Go.Proofs.YtnniipekcbjloaaDoor.ev]⟩
  | succ n ih =>
    obtain ⟨l, hl⟩ := ih.mul ha
    exact ⟨l, fun x => by show A x ^ (n + 1) = _; rw [← hl x, Int.pow_succ]⟩
theorem IsP.neg {A : Int → Int} (ha : IsP A) : IsP (fun x => -A x) := by
  obtain ⟨l, hl⟩ := (IsP.const (-1)).mul ha
  exact ⟨l, fun x => by show -A x = _; rw [← hl x]; show _ = -1 * A x; omega⟩
theorem IsP.sub {A B : Int → Int} (ha : IsP A) (hb : IsP B) : IsP (fun x => A x - B x) := by
  obtain ⟨l, hl⟩ := ha.add hb.neg
  exact ⟨l, fun x => by show A x - B x = _; rw [← hl x]; show _ = A x + -B x; omega⟩
theorem IsP.zero : IsP (fun _ => 0) := IsP.const 0
/-- two functions differ by a multiple of p -/
def EqM (p : Int) (A B : Int → Int) : Prop := ∃ E, IsP E ∧ ∀ x, A x = B x + p * E x
theorem EqM.of_eq {p : Int} {A B : Int → Int} (h : ∀ x, A x = B x) : EqM p A B := ⟨_, IsP.zero, fun x => by rw [h]; simp⟩
theorem EqM.symm {p : Int} {A B : Int → Int} (h : EqM p A B) : EqM p B A := by
  obtain ⟨E, hE, h⟩ := h
  exact ⟨_, hE.neg, fun x => by rw [h x]; grind⟩
theorem EqM.trans {p : Int} {A B C : Int → Int} (h : EqM p A B) (g : EqM p B C) : EqM p A C := by
  obtain ⟨E, hE, h⟩ := h; obtain ⟨F, hF, g⟩ := g
  exact ⟨_, hE.add hF, fun x => by rw [h x, g x]; grind⟩
theorem EqM.add {p : Int} {A B C D : Int → Int} (h : EqM p A B) (g : EqM p C D) : EqM p (fun x => A x + C x) (fun x => B x + D x) := by
  obtain ⟨E, hE, h⟩ := h; obtain ⟨F, hF, g⟩ := g
  exact ⟨_, hE.add hF, fun x => by simp only [h x, g x]; grind⟩
theorem EqM.mul {p : Int} {A B C D : Int → Int} (h : EqM p A B) (g : EqM p C D) (ha : IsP A) (hd : IsP D) : EqM p (fun x => A x * C x) (fun x => B x * D x) := by
  obtain ⟨E, hE, h⟩ := h; obtain ⟨F, hF, g⟩ := g
  refine ⟨_, (ha.mul hF).add (hE.mul hd), fun x => ?_⟩
  have e1 : A x * C x = A x * D x + p * (A x * F x) := by rw [g x]; grind
  have e2 : A x * D x = B x * D x + p * (E x * D x) := by rw [h x]; grind
  show A x * C x = B x * D x + p * (A x * F x + E x * D x)
  rw [e1, e2]; grind
/-- two functions differ by multiples of p and of g -/
def Md (p : Int) (g : List Int) (A B : Int → Int) : Prop := ∃ H E, IsP H ∧ IsP E ∧ ∀ x, A x = B x + H x * ev g x + p * E x
theorem Md.ofEqM {p : Int} (g : List Int) {A B : Int → Int} (h : EqM p A B) : Md p g A B := by
  obtain ⟨E, hE, h⟩ := h
  exact ⟨_, E, IsP.zero, hE, fun x => by rw [h x]; simp⟩
theorem Md.of_eq {p : Int} {g : List Int} {A B : Int → Int} (h : ∀ x, A x = B x) : Md p g A B := Md.ofEqM g (EqM.of_eq h)
theorem Md.symm {p : Int} {g : List Int} {A B : Int → Int} (h : Md p g A B) : Md p g B A := by
  obtain ⟨H, E, hH, hE, h⟩ := h
  exact ⟨_, _, hH.neg, hE.neg, fun x => by rw [h x]; grind⟩
theorem Md.trans {p : Int} {g : List Int} {A B C : Int → Int} (h : Md p g A B) (k : Md p g B C) : Md p g A C := by
  obtain ⟨H, E, hH, hE, h⟩ := h; obtain ⟨K, F, hK, hF, k⟩ := k
  exact ⟨_, _, hH.add hK, hE.add hF, fun x => by rw [h x, k x]; grind⟩
theorem Md.add {p : Int} {g : List Int} {A B C D : Int → Int} (h : Md p g A B) (k : Md p g C D) : Md p g (fun x => A x + C x) (fun x => B x + D x) := by
  obtain ⟨H, E, hH, hE, h⟩ := h; obtain ⟨K, F, hK, hF, k⟩ := k
  exact ⟨_, _, hH.add hK, hE.add hF, fun x => by simp only [h x, k x]; grind⟩
theorem Md.mul {p : Int} {g : List Int} {A B C D : Int → Int} (h : Md p g A B) (k : Md p g C D) (ha : IsP A) (hd : IsP D) : Md p g (fun x => A x * C x) (fun x => B x * D x) := by
  obtain ⟨H, E, hH, hE, h⟩ := h; obtain ⟨K, F, hK, hF, k⟩ := k
  refine ⟨_, _, (ha.mul hK).add (hH.mul hd), (ha.mul hF).add (hE.mul hd), fun x => ?_⟩
  have e1 : A x * C x = A x * D x + A x * K x * ev g x + p * (A x * F x) := by rw [k x]; grind
  have e2 : A x * D x = B x * D x + H x * D x * ev g x + p * (E x * D x) := by rw [h x]; grind
  show A x * C x = B x * D x + (A x * K x + H x * D x) * ev g x + p * (A x * F x + E x * D x)
  rw [e1, e2]; grind
theorem Md.pow {p : Int} {g : List Int} {A B : Int → Int} (h : Md p g A B) (ha : IsP A) (hb : IsP B) (n : Nat) : Md p g (fun x => A x ^ n) (fun x => B x ^ n) := by
  induction n with
  | zero => exact Md.of_eq fun x => by simp
  | succ n ih =>
    refine Md.trans (Md.of_eq fun x => Int.pow_succ _ _) (Md.trans (ih.mul h (ha.pow n) hb) (Md.of_eq fun x => (Int.pow_succ _ _).symm))
/-- a sum's p-th power is that of both, but for a multiple of p -/
theorem IsPr.frob {p : Int} (h : IsPr p) {A B : Int → Int} (ha : IsP A) (hb : IsP B) : EqM p (fun x => (A x + B x) ^ p.toNat) (fun x => A x ^ p.toNat + B x ^ p.toNat) := by
  have hp := h.two
  obtain ⟨n, hn⟩ : ∃ n, p.toNat = n + 1 := ⟨p.toNat - 1, by omega⟩
  have key : ∀ m, m ≤ n → ∃ E, IsP E ∧ ∀ x, bs p.toNat (A x) (B x) (m + 1) = B x ^ p.toNat + p * E x := by
    intro m
    induction m with
    | zero => intro _; exact ⟨_, IsP.zero, fun x => by rw [bs_one]; simp⟩
    | succ m ih =>
      intro hm
      obtain ⟨E, hE, e⟩ := ih (by omega)
      obtain ⟨c, hc⟩ := h.chop (k := m + 1) (by omega) (by omega)
      refine ⟨_, hE.add (((IsP.const c).mul (ha.pow (m + 1))).mul (hb.pow (p.toNat - (m + 1)))), fun x => ?_⟩
      rw [bs, e x, hc]; grind
  obtain ⟨E, hE, e⟩ := key n (Nat.le_refl _)
  refine ⟨E, hE, fun x => ?_⟩
  show (A x + B x) ^ p.toNat = A x ^ p.toNat + B x ^ p.toNat + p * E x
  have e2 : bs p.toNat (A x) (B x) (p.toNat + 1) = bs p.toNat (A x) (B x) p.toNat + cho p.toNat p.toNat * A x ^ p.toNat * B x ^ (p.toNat - p.toNat) := rfl
  rw [binom, e2, cho_self, Nat.sub_self, Int.pow_zero]
  rw [show bs p.toNat (A x) (B x) p.toNat = bs p.toNat (A x) (B x) (n + 1) by rw [← hn], e x]
  grind
/-- Fermat: a number's p-th power is it, but for a multiple of p -/
theorem IsPr.fermat {p : Int} (h : IsPr p) (c : Nat) : ∃ k, (c : Int) ^ p.toNat = c + p * k := by
  have hp := h.two
  induction c with
  | zero => exact ⟨0, by rw [Int.natCast_zero, Int.zero_pow (by omega)]; simp⟩
  | succ c ih =>
    obtain ⟨k, hk⟩ := ih
    obtain ⟨E, _, e⟩ := h.frob (IsP.const (c : Int)) (IsP.const 1)
    have := e 0
    refine ⟨k + E 0, ?_⟩
    rw [Int.natCast_succ]
    simp only [Int.one_pow] at this
    rw [this, hk]; grind
theorem IsPr.fermat' {p : Int} (h : IsPr p) {c : Int} (h0 : 0 ≤ c) : ∃ k, c ^ p.toNat = c + p * k := by
  obtain ⟨c, rfl⟩ := Int.eq_ofNat_of_zero_le h0
  exact h.fermat c
/-- the reciprocal -/
theorem IsPr.inv {p : Int} (h : IsPr p) {a : Int} (h0 : 0 < a) (h1 : a < p) : ∃ k, a * a ^ (p.toNat - 2) = 1 + p * k := by
  have hp := h.two
  obtain ⟨k, hk⟩ := h.fermat' (c := a) (by omega)
  have e : a ^ p.toNat = a * (a * a ^ (p.toNat - 2)) := by
    rw [show p.toNat = (p.toNat - 2) + 1 + 1 by omega, Int.pow_succ, Int.pow_succ]
    rw [show p.toNat - 2 + 1 + 1 - 2 = p.toNat - 2 by omega]; grind
  have hd : p ∣ a * (a * a ^ (p.toNat - 2) - 1) := ⟨k, by rw [Int.mul_sub, ← e, hk]; omega⟩
  rcases h.dvd_mul hd with h3 | ⟨j, h3⟩
  · exact absurd h3 (h.small h0 h1)
  · exact ⟨j, by omega⟩
/-- 1 has no roots but 1 and -1 -/
theorem IsPr.root {p : Int} (h : IsPr p) {x : Int} (h0 : 0 ≤ x) (h1 : x < p) (hx : x * x % p = 1) : x = 1 ∨ x = p - 1 := by
  have hd : p ∣ (x - 1) * (x + 1) := by
    refine ⟨x * x / p, ?_⟩
    have := Int.mul_ediv_add_emod (x * x) p
    rw [hx] at this; grind
  have hp := h.two
  rcases h.dvd_mul hd with ⟨k, hk⟩ | ⟨k, hk⟩
  · left
    by_cases hz : x = 1
    · exact hz
    · exfalso
      by_cases h2 : x = 0
      · subst h2
        have := Int.le_of_dvd (b := 1) (by omega) ⟨-k, by rw [Int.mul_neg, ← hk]; omega⟩; omega
      · exact h.small (a := x - 1) (by omega) (by omega) ⟨k, hk⟩
  · right
    have := Int.le_of_dvd (a := p) (b := x + 1) (by omega) ⟨k, hk⟩
    omega
theorem can_dig {l : List Int} (h : Can l) (hl : 0 < l.length) : dig l (l.length - 1) ≠ 0 := by
  obtain ⟨r, z, rfl⟩ := snoc_of (zs := l) (by intro e; subst e; simp at hl)
  have := can_snoc.1 h
  simpa [dig] using this
theorem can_of_dig {l : List Int} (h : 0 < l.length → dig l (l.length - 1) ≠ 0) : Can l := by
  by_cases hl : l = []
  · subst hl; exact Can.nil
  · obtain ⟨r, z, rfl⟩ := snoc_of hl
    have := h (by simp)
    exact can_snoc.2 (by simpa [dig] using this)
theorem ev_of_digs : ∀ {a b : List Int}, (∀ k, dig a k = dig b k) → ∀ x, ev a x = ev b x
  | [], [], _, _ => rfl
  | [], b :: br, h, x => by
    have h0 := h 0
    have h1 := ev_of_digs (a := []) (b := br) (fun k => by have := h (k + 1); rw [dig_cons] at this; rw [← this]; rfl) x
    simp only [dig, List.getD_nil, List.getD_cons_zero] at h0
    simp only [ev] at h1 ⊢
    rw [← h1, ← h0]; simp
  | a :: ar, [], h, x => by
    have h0 := h 0
    have h1 := ev_of_digs (a := ar) (b := []) (fun k => by have := h (k + 1); rw [dig_cons] at this; rw [this]; rfl) x
    simp only [dig, List.getD_nil, List.getD_cons_zero] at h0
    simp only [ev] at h1 ⊢
    rw [h1, h0]; simp
  | a :: ar, b :: br, h, x => by
    have h0 := h 0
    have h1 := ev_of_digs (a := ar) (b := br) (fun k => by have := h (k + 1); rw [dig_cons, dig_cons] at this; exact this) x
    simp only [dig, List.getD_cons_zero] at h0
    simp only [ev]
    rw [h1, h0]
theorem digs_of_ev {a b : List Int} (h : ∀ x, ev a x = ev b x) (k : Nat) : dig a k = dig b k := by
  have hz := zero_of_ev (p := addTo a (b.map (-1 * ·))) (N := 0) (fun x _ => by rw [addTo_ev, map_ev, h x]; omega)
  have h1 : dig (addTo a (b.map (-1 * ·))) k = 0 := by
    obtain ⟨L, hL⟩ : ∃ L, addTo a (b.map (-1 * ·)) = L := ⟨_, rfl⟩
    rw [hL] at hz ⊢
    by_cases hk : k < L.length
    · have : dig L k = L[k] := by simp [dig, hk]
      rw [this]; exact hz _ (List.getElem_mem hk)
    · exact dig_past (by omega)
  rw [addTo_dig, map_dig] at h1
  omega
theorem EqM.digs {p : Int} {a b : List Int} (h : EqM p (fun x => ev a x) (fun x => ev b x)) (k : Nat) : ∃ c, dig a k = dig b k + p * c := by
  obtain ⟨E, ⟨e, he⟩, h⟩ := h
  have := digs_of_ev (a := a) (b := addTo b (e.map (p * ·))) (fun x => by
    have h1 : ev a x = ev b x + p * E x := h x
    rw [h1, addTo_ev, map_ev, he x]) k
  rw [addTo_dig, map_dig] at this
  exact ⟨_, this⟩
theorem range_dig (F : Nat → Int) (n k : Nat) (h : k < n) : dig ((List.range n).map F) k = F k := by
  unfold dig
  rw [List.getD_eq_getElem?_getD, List.getElem?_map, List.getElem?_range h]; rfl
theorem EqM.of_digs {p : Int} {a b : List Int} (h : ∀ k, ∃ c, dig a k = dig b k + p * c) : EqM p (fun x => ev a x) (fun x => ev b x) := by
  have hc : ∀ k, ∃ c, dig a k = dig b k + p * c := h
  refine ⟨_, IsP.ev ((List.range (max a.length b.length)).map fun k => Classical.choose (hc k)), fun x => ?_⟩
  show ev a x = ev b x + p * _
  rw [← map_ev, ← addTo_ev]
  refine ev_of_digs (fun k => ?_) x
  rw [addTo_dig, map_dig]
  by_cases hk : k < max a.length b.length
  · rw [range_dig _ _ _ hk]; exact Classical.choose_spec (hc k)
  · rw [dig_past (s := a) (by omega), dig_past (s := b) (by omega), dig_past (by simp; omega)]; simp
/-- a polynomial modulo p: each coefficient below it, the last one not 0 -/
structure Pm (p : Int) (l : List Int) : Prop where
  wd : Wd p l
  can : Can l
theorem Pm.nil (p : Int) : Pm p [] := ⟨Wd.nil p, Can.nil⟩
theorem mod_inj {p a b c : Int} (ha : 0 ≤ a ∧ a < p) (hb : 0 ≤ b ∧ b < p) (h : a = b + p * c) : a = b := by
  have h1 : a % p = a := Int.emod_eq_of_lt ha.1 ha.2
  have h2 : b % p = b := Int.emod_eq_of_lt hb.1 hb.2
  rw [← h1, h, Int.add_mul_emod_self_left, h2]
theorem len_of_digs {a b : List Int} (hb : Can b) (h : ∀ k, dig a k = dig b k) : b.length ≤ a.length := by
  by_cases hl : b.length ≤ a.length
  · exact hl
  · have h1 := can_dig hb (by omega)
    rw [← h, dig_past (by omega)] at h1
    exact absurd rfl h1
theorem Pm.inj {p : Int} {a b : List Int} (hp : 0 < p) (ha : Pm p a) (hb : Pm p b) (h : EqM p (fun x => ev a x) (fun x => ev b x)) : a = b := by
  have hd : ∀ k, dig a k = dig b k := fun k => by
    obtain ⟨c, hc⟩ := h.digs k
    exact mod_inj (ha.wd.dig hp k) (hb.wd.dig hp k) hc
  have h1 := len_of_digs hb.can hd
  have h2 := len_of_digs ha.can fun k => (hd k).symm
  exact dig_ext (by omega) fun t _ => hd t
theorem Pm.lead {p : Int} {g : List Int} (h : Pm p g) (hp : 0 < p) (hl : 0 < g.length) : 0 < dig g (g.length - 1) ∧ dig g (g.length - 1) < p := by
  have h1 := can_dig h.can hl
  have h2 := h.wd.dig hp (g.length - 1)
  omega
theorem ev_snoc (l : List Int) (z x : Int) : ev (l ++ [z]) x = ev l x + z * x ^ l.length := by
  induction l with
  | nil => simp [ev]
  | cons a l ih => simp only [List.cons_append, ev, ih, List.length_cons, Int.pow_succ]; grind
/-- what is left by g is told by what it is modulo g -/
theorem Md.inj {p : Int} {g a b : List Int} (hp : IsPr p) (hg : Pm p g) (ha : Pm p a) (hb : Pm p b) (la : a.length < g.length) (lb : b.length < g.length) (h : Md p g (fun x => ev a x) (fun x => ev b x)) : a = b := by
  have hp2 := hp.two
  have key : ∀ (n : Nat) (hl : List Int), hl.length = n → ∀ E, IsP E → (∀ x, ev a x = ev b x + ev hl x * ev g x + p * E x) → EqM p (fun x => ev a x) (fun x => ev b x) := by
    intro n
    induction n with
    | zero =>
      intro hl hn E hE e
      obtain rfl := List.eq_nil_of_length_eq_zero hn
      exact ⟨E, hE, fun x => by show ev a x = ev b x + p * E x; rw [e x]; simp [ev]⟩
    | succ n ih =>
      intro hl hn E hE e
      obtain ⟨h0, z, rfl⟩ := snoc_of (zs := hl) (by intro h; subst h; simp at hn)
      have hn0 : h0.length = n := by simpa using hn
      obtain ⟨el, he⟩ := hE
      have hd := digs_of_ev (a := a) (b := addTo (addTo b (mulL (h0 ++ [z]) g)) (el.map (p * ·))) (fun x => by rw [e x, addTo_ev, addTo_ev, mulL_ev, map_ev, he x]) ((h0 ++ [z]).length + g.length - 2)
      have hlen : (h0 ++ [z]).length = n + 1 := hn
      rw [addTo_dig, addTo_dig, map_dig, mulL_lead _ _ (by omega) (by omega), dig_past (s := a) (by omega), dig_past (s := b) (by omega)] at hd
      have hz : dig (h0 ++ [z]) ((h0 ++ [z]).length - 1) = z := by simp [dig]
      rw [hz] at hd
      have hl := hg.lead (by omega) (by omega)
      have hdv : p ∣ z * dig g (g.length - 1) := ⟨-(dig el ((h0 ++ [z]).length + g.length - 2)), by rw [Int.mul_neg]; omega⟩
      rcases hp.dvd_mul hdv with ⟨y, hy⟩ | h3
      · subst hy
        refine ih h0 hn0 _ ((IsP.ev el).add (((IsP.const y).mul (IsP.id.pow n)).mul (IsP.ev g))) fun x => ?_
        show ev a x = ev b x + ev h0 x * ev g x + p * (ev el x + y * x ^ n * ev g x)
        rw [e x, ev_snoc, hn0, he x]; grind
      · exact absurd h3 (hp.small hl.1 hl.2)
  obtain ⟨H, E, ⟨hl, hH⟩, hE, h⟩ := h
  exact Pm.inj (by omega) ha hb (key _ hl rfl E hE fun x => by rw [← hH x]; exact h x)
/-- each coefficient modulo p -/
def rmL (p : Int) (l : List Int) : List Int := l.map (· % p)
theorem rmL_len (p : Int) (l : List Int) : (rmL p l).length = l.length := by simp [rmL]
theorem rmL_dig (p : Int) (l : List Int) (k : Nat) : dig (rmL p l) k = dig l k % p := by
  unfold dig rmL
  rw [List.getD_eq_getElem?_getD, List.getD_eq_getElem?_getD, List.getElem?_map]
  cases l[k]? <;> simp
theorem rmL_wd {p : Int} (hp : 0 < p) (l : List Int) : Wd p (rmL p l) := fun z hz => by
  simp only [rmL, List.mem_map] at hz
  obtain ⟨y, _, rfl⟩ := hz
  exact ⟨Int.emod_nonneg _ (by omega), Int.emod_lt_of_pos _ hp⟩
theorem emod_eq (a p : Int) : a % p = a + p * (-(a / p)) := by
  have := Int.mul_ediv_add_emod a p
  rw [Int.mul_neg]; omega
/-- the product modulo p -/
theorem mulM_pm {p : Int} {f g : List Int} (hp : IsPr p) (hf : Pm p f) (hg : Pm p g) (lf : 0 < f.length) (lg : 0 < g.length) : Pm p (rmL p (mulL f g)) := by
  have hp2 := hp.two
  refine ⟨rmL_wd (by omega) _, can_of_dig fun _ => ?_⟩
  rw [rmL_len, rmL_dig, mulL_len _ _ lg, show f.length + g.length - 1 - 1 = f.length + g.length - 2 by omega, mulL_lead _ _ lf lg]
  have h1 := hf.lead (by omega) lf
  have h2 := hg.lead (by omega) lg
  intro e
  rcases hp.dvd_mul (Int.dvd_of_emod_eq_zero e) with h | h
  · exact hp.small h1.1 h1.2 h
  · exact hp.small h2.1 h2.2 h
/-- the first i parts of what stands at x^k in f g -/
def cs (f g : List Int) (k : Nat) : Nat → Int
  | 0 => 0
  | i + 1 => cs f g k i + dig f i * dig g (k - i)
theorem cs_shift (a : Int) (f g : List Int) (k i : Nat) : cs (a :: f) g (k + 1) (i + 1) = a * dig g (k + 1) + cs f g k i := by
  induction i with
  | zero => simp [cs, dig]
  | succ i ih => rw [cs, ih, cs, dig_cons, show k + 1 - (i + 1) = k - i by omega]; omega
theorem cs_none (g : List Int) (k i : Nat) : cs [] g k i = 0 := by
  induction i with
  | zero => rfl
  | succ i ih => rw [cs, ih]; simp [dig]
theorem cs_mulL (f g : List Int) (k : Nat) : dig (mulL f g) k = cs f g k (k + 1) := by
  induction f generalizing k with
  | nil => rw [cs_none, mulL, rep_dig]
  | cons a f ih =>
    rw [mulL, addTo_dig, map_dig]
    cases k with
    | zero => simp [cs, dig]
    | succ k => rw [cs_shift, dig_cons, ih]
theorem cs_zero {f g : List Int} {k : Nat} : ∀ {i : Nat}, (∀ j, j < i → dig f j * dig g (k - j) = 0) → cs f g k i = 0
  | 0, _ => rfl
  | i + 1, h => by rw [cs, cs_zero fun j hj => h j (by omega), h i (by omega)]; rfl
theorem cs_low {f g : List Int} {k i : Nat} (h : i = 0 ∨ g.length + i ≤ k + 1) : cs f g k i = 0 :=
  cs_zero fun j hj => by rw [dig_past (s := g) (by omega)]; simp
theorem cs_high {f g : List Int} {k i m : Nat} (h : i ≤ m) (hf : f.length ≤ i) : cs f g k m = cs f g k i := by
  induction m with
  | zero => have : i = 0 := by omega
            subst this; rfl
  | succ m ih =>
    by_cases e : i = m + 1
    · subst e; rfl
    · rw [cs, ih (by omega), dig_past (s := f) (by omega)]; simp
theorem cs_end {f g : List Int} {k i : Nat} (h : i = k + 1 ∨ (i ≤ k + 1 ∧ f.length ≤ i)) : cs f g k i = dig (mulL f g) k := by
  rw [cs_mulL]
  rcases h with rfl | ⟨h1, h2⟩
  · rfl
  · exact (cs_high h1 h2).symm
theorem cs_bound {p : Int} {f g : List Int} (hp : 0 < p) (hp2 : p ≤ 2147483648) (hf : Wd p f) (hg : Wd p g) (k i : Nat) : 0 ≤ cs f g k i ∧ cs f g k i ≤ i * 4611686018427387904 := by
  induction i with
  | zero => simp [cs]
  | succ i ih =>
    have h1 := hf.dig hp i
    have h2 := hg.dig hp (k - i)
    have h3 := Int.mul_nonneg h1.1 h2.1
    have h4 : dig f i * dig g (k - i) ≤ 2147483648 * 2147483648 := Int.mul_le_mul (by omega) (by omega) h2.1 (by decide)
    rw [cs]
    constructor
    · omega
    · rw [Int.natCast_succ]; omega
theorem cs_set {Q g : List Int} {K k : Nat} {v : Int} (hk : k < Q.length) (i : Nat) : cs (Q.set k v) g K i = cs Q g K i + if k < i then (v - dig Q k) * dig g (K - k) else 0 := by
  induction i with
  | zero => simp [cs]
  | succ i ih =>
    rw [cs, cs, ih, dig_set _ hk]
    by_cases e : i = k
    · subst e; rw [if_pos rfl, if_neg (by omega), if_pos (by omega)]; grind
    · rw [if_neg e]
      by_cases e2 : k < i
      · rw [if_pos e2, if_pos (by omega)]; omega
      · rw [if_neg e2, if_neg (by omega)]; omega
/-- a quotient by g on its way: the places from k on are found -/
structure QSt (p : Int) (f g Q : List Int) (k : Nat) : Prop where
  len : Q.length = f.length - (g.length - 1)
  wd : Wd p Q
  low : ∀ j, j < k → dig Q j = 0
  eq : ∀ j, k ≤ j → j < Q.length → ∃ c, dig f (j + (g.length - 1)) = cs Q g (j + (g.length - 1)) (j + (g.length - 1) + 1) + p * c
theorem QSt.start {p : Int} (hp : 0 < p) (f g : List Int) : QSt p f g (List.replicate (f.length - (g.length - 1)) 0) (f.length - (g.length - 1)) :=
  ⟨by simp, fun z hz => by rw [(List.mem_replicate.1 hz).2]; exact ⟨Int.le_refl _, hp⟩, fun j _ => rep_dig _ _, fun j h1 h2 => by simp at h2; omega⟩
theorem QSt.step {p : Int} {f g Q : List Int} {k : Nat} (h : QSt p f g Q (k + 1)) (hk : k < Q.length) (hg : 0 < g.length) {v c y z : Int} (hv : 0 ≤ v ∧ v < p)
    (hc : c * dig g (g.length - 1) = 1 + p * y) (he : v = (dig f (k + (g.length - 1)) - cs Q g (k + (g.length - 1)) (k + (g.length - 1) + 1)) * c + p * z) : QSt p f g (Q.set k v) k := by
  refine ⟨by simp [h.len], h.wd.set _ hv, fun j hj => ?_, fun j h1 h2 => ?_⟩
  · rw [dig_set _ hk, if_neg (by omega)]; exact h.low j (by omega)
  · rw [List.length_set] at h2
    rw [cs_set hk, if_pos (by omega), h.low k (by omega)]
    by_cases e : j = k
    · subst e
      rw [show j + (g.length - 1) - j = g.length - 1 by omega]
      obtain ⟨F, hF⟩ : ∃ F, dig f (j + (g.length - 1)) = F := ⟨_, rfl⟩
      obtain ⟨S, hS⟩ : ∃ S, cs Q g (j + (g.length - 1)) (j + (g.length - 1) + 1) = S := ⟨_, rfl⟩
      obtain ⟨G, hG⟩ : ∃ G, dig g (g.length - 1) = G := ⟨_, rfl⟩
      rw [hF, hS] at he ⊢
      rw [hG] at hc ⊢
      refine ⟨-((F - S) * y) - z * G, ?_⟩
      have e1 : (v - 0) * G = (F - S) * (c * G) + p * (z * G) := by rw [he]; grind
      rw [e1, hc]; grind
    · obtain ⟨c', hc'⟩ := h.eq j (by omega) h2
      refine ⟨c', ?_⟩
      rw [dig_past (s := g) (k := j + (g.length - 1) - k) (by omega), hc']; simp
/-- the quotient and what is left of each place below -/
theorem QSt.done {p : Int} {f g Q R : List Int} (h : QSt p f g Q 0) (hg : 0 < g.length) (hR : R.length = min f.length (g.length - 1)) (hr : ∀ k, k < R.length → dig R k = (dig f k - cs Q g k (k + 1)) % p) :
    EqM p (fun x => ev f x) (fun x => ev Q x * ev g x + ev R x) := by
  have hq := h.len
  have h1 : EqM p (fun x => ev f x) (fun x => ev (addTo (mulL Q g) R) x) := EqM.of_digs fun k => by
    rw [addTo_dig, cs_mulL]
    by_cases h1 : k < R.length
    · rw [hr k h1, emod_eq]
      exact ⟨(dig f k - cs Q g k (k + 1)) / p, by rw [Int.mul_neg]; omega⟩
    · rw [dig_past (s := R) (by omega)]
      by_cases h2 : k < f.length
      · obtain ⟨c, hc⟩ := h.eq (k - (g.length - 1)) (Nat.zero_le _) (by omega)
        rw [show k - (g.length - 1) + (g.length - 1) = k by omega] at hc
        exact ⟨c, by rw [hc]; omega⟩
      · refine ⟨0, ?_⟩
        rw [dig_past (s := f) (by omega), cs_zero fun j hj => ?_]
        · simp
        · by_cases h3 : j < Q.length
          · rw [dig_past (s := g) (k := k - j) (by omega)]; simp
          · rw [dig_past (s := Q) (by omega)]; simp
  exact h1.trans (EqM.of_eq fun x => by rw [addTo_ev, mulL_ev])
/-- a row cut behind its last coefficient -/
theorem take_eqm (p : Int) {l : List Int} {n : Nat} (h : ∀ t, n ≤ t → dig l t = 0) : EqM p (fun x => ev (l.take n) x) (fun x => ev l x) :=
  EqM.of_digs fun k => ⟨0, by
    by_cases hk : k < n
    · rw [dig_take hk]; simp
    · rw [h k (by omega), dig_past (by simp; omega)]; simp⟩
end Go.Proofs.YtnniipekcbjloaaDoor
/-
  MB: walks: math/bits' Rem64, TrailingZeros64, Len64; two words that are summed up (modp.total); modp's arithmetic of residues.
-/
namespace Go.Proofs.YtnniipekcbjloaaDoor
open Go.RowKit Go.Shelf
set_option linter.unusedVariables false
set_option linter.unusedSimpArgs false
set_option maxRecDepth 100000 in
set_option maxHeartbeats 400000 in
theorem mrem64 (hi lo y : Int) (h0 : 0 ≤ hi) (h1 : hi < 18446744073709551616) (hy : 0 < y) (h2 : y < 18446744073709551616) (h3 : 0 ≤ lo) (h4 : lo < 18446744073709551616) (W : World) :
    Calls Tryd.prog 76 #[.int .u64 hi, .int .u64 lo, .int .u64 y] W fun e w' => e = .returned (.int .u64 ((hi * 18446744073709551616 + lo) % y)) ∧ ∃ n, w' = W.drewN n := by
  obtain ⟨m, hm⟩ : ∃ m, hi % y = m := ⟨_, rfl⟩
  have hm0 : 0 ≤ m := by rw [← hm]; exact Int.emod_nonneg _ (by omega)
  have hm1 : m < y := by rw [← hm]; exact Int.emod_lt_of_pos _ hy
  obtain ⟨d, r, hdiv, hd, hr, he⟩ := div64_ex m lo y hm0 hm1 h2 h3 h4
  have htm : hi.tmod y = m := by rw [Int.tmod_eq_emod_of_nonneg h0, hm]
  have HE : Hid ((hi * 18446744073709551616 + lo) % y = r) := by
    show _ = _
    have e1 : hi = y * (hi / y) + m := by rw [← hm]; have := Int.mul_ediv_add_emod hi y; omega
    have e2 : hi * 18446744073709551616 + lo = r + y * ((hi / y) * 18446744073709551616 + d) := by
      have e3 : hi * 18446744073709551616 = (y * (hi / y) + m) * 18446744073709551616 := by rw [← e1]
      grind
    rw [e2, Int.add_mul_emod_self_left]
    exact Int.emod_eq_of_lt hr.1 hr.2
  have hy0 : (y == 0) = false := by simp; omega
  clear hm he hd hr
  go_enter Tryd.func76, Tryd.ntmps76
  go_wp2_with (go_at_call 87; refine (hdiv _).mono ?_; rintro e w' ⟨rfl, nq, rfl⟩)
  go_ret
  exact ⟨by rw [HE.out]; rfl, _, rfl⟩
def mrenT : Go.Shelf.Ren := ⟨fun _ => 85, fun x => if x = 0 then 0 else if x = 3 then 3 else if x = 4 then 4 else if x = 5 then 5 else if x = 22 then 25 else if x = 25 then 100 else 121, fun _ => 0⟩
theorem mlays29 : Lays7.n29 Tryd.prog mrenT := by
  constructor <;> first | (intro w; kernel_rfl) | kernel_rfl
theorem mtrailing (x : Nat) (w : World) (hx : x < 18446744073709551616) (hT : TabAt 0 Lib.deBruijn64tab w) :
    Calls Tryd.prog 85 #[.int .u64 (x : Int)] w fun e w' => e = .returned (.int .i64 (Lib.ctz 64 x)) ∧ w' = w :=
  Any7.bits_TrailingZeros64 mlays29 x hx w fun _ => hT
def mrenL : Go.Shelf.Ren := ⟨fun _ => 77, fun x => if x = 3 then 3 else if x = 4 then 4 else if x = 5 then 5 else if x = 9 then 9 else if x = 46 then 100 else 25, fun x => x⟩
theorem mlays129 : Lays.n129 Tryd.prog mrenL := by
  constructor <;> first | (intro w; kernel_rfl) | kernel_rfl
theorem mlen64 (x : Int) (w : World) (h0 : 0 ≤ x) (h1 : x ≤ 18446744073709551615) :
    Calls Tryd.prog 77 #[.int .u64 x] w fun e w' => e = .returned (.int .i64 (Lib.bitLen x.toNat)) ∧ w' = w :=
  Any.bits_Len64 mlays129 x w h0 h1
/-- a sum of products in two words: what with tells -/
def WithAns (w w' : World) (e : Ending) (s : Int) : Prop :=
  ∃ h l, e = .returned (.agg #[.int .u64 h, .int .u64 l]) ∧ (0 ≤ h ∧ h < 18446744073709551616) ∧ (0 ≤ l ∧ l < 18446744073709551616) ∧ h * 18446744073709551616 + l = s ∧ Below w.heap.size w w'
theorem WithAns.at {w w' w'' : World} {e : Ending} {s : Int} (h : WithAns w w' e s) (hb : Below w.heap.size w w'') : WithAns w w'' e s := by
  obtain ⟨h, l, he, h1, h2, h3, _⟩ := h
  exact ⟨h, l, he, h1, h2, h3, hb⟩
set_option maxRecDepth 100000 in
set_option maxHeartbeats 1000000 in
theorem twith_any (h l a b : Int) (w : World) (hh : 0 ≤ h ∧ h < 18446744073709551616) (hl : 0 ≤ l ∧ l < 18446744073709551616) (ha : 0 ≤ a ∧ a < 18446744073709551616) (hb : 0 ≤ b ∧ b < 18446744073709551616)
    (hs : h * 18446744073709551616 + l + a * b < 340282366920938463463374607431768211456) :
    Calls Tryd.prog 69 #[.agg #[.int .u64 h, .int .u64 l], .int .u64 a, .int .u64 b] w fun e w' => WithAns w w' e (h * 18446744073709551616 + l + a * b) := by
  obtain ⟨hi, lo, hmul, hhi, hlo, hml⟩ := mul64_ex a b ha hb
  obtain ⟨d1, c1, hrun1, hd1, hc1, he1⟩ := add64_ex lo l 0 hlo hl (by decide) (by decide)
  obtain ⟨d2, c2, hrun2, hd2, hc2, he2⟩ := add64_ex hi h c1 ⟨hhi.1, by omega⟩ hh hc1.1 hc1.2
  have HE : Hid (WithAns w w (.returned (.agg #[.int .u64 d2, .int .u64 d1])) (h * 18446744073709551616 + l + a * b)) :=
    ⟨d2, d1, rfl, hd2, hd1, by omega, Below.refl _ _⟩
  clear hhi hlo hml hd1 he1 hc1 hd2 he2 hc2 hs hh hl ha hb
  go_enter Tryd.func69, Tryd.ntmps69
  go_wp2_with (first | simp only [hrun1] | simp only [hrun2] | (go_at_call 83; refine (hmul _).mono ?_; rintro e w' ⟨rfl, rfl⟩))
  exact bodyPost_ret (v := .agg #[.int .u64 d2, .int .u64 d1]) (by simp [results, Tryd.results69, go_sem]) rfl (HE.out.at (((Below.refl _ w).alloc (Nat.le_refl _) _).alloc (by simp) _))
set_option maxRecDepth 100000 in
set_option maxHeartbeats 400000 in
theorem trest_any (h l p r : Int) (w : World) (hh : 0 ≤ h ∧ h < 18446744073709551616) (hl : 0 ≤ l ∧ l < 18446744073709551616) (hp : 0 < p ∧ p < 18446744073709551616) (hr : (h * 18446744073709551616 + l) % p = r) :
    Calls Tryd.prog 70 #[.agg #[.int .u64 h, .int .u64 l], .int .u64 p] w fun e w' => e = .returned (.int .u64 r) ∧ Below w.heap.size w w' := by
  have hrem := mrem64 h l p hh.1 hh.2 hp.1 hp.2 hl.1 hl.2
  rw [hr] at hrem
  clear hr hh hl hp
  go_enter Tryd.func70, Tryd.ntmps70
  go_wp2_with (go_at_call 76; refine (hrem _).mono ?_; rintro e w' ⟨rfl, n, rfl⟩)
  go_ret
  exact ⟨rfl, below_drewN ((Below.refl _ w).alloc (Nat.le_refl _) _) _⟩
set_option maxRecDepth 100000 in
set_option maxHeartbeats 400000 in
theorem mtimes_any (p a b r : Int) (w : World) (hp : 0 < p ∧ p < 18446744073709551616) (ha : 0 ≤ a ∧ a < 18446744073709551616) (hb : 0 ≤ b ∧ b < 18446744073709551616) (hr : a * b % p = r) :
    Calls Tryd.prog 47 #[.int .u64 p, .int .u64 a, .int .u64 b] w fun e w' => e = .returned (.int .u64 r) ∧ Below w.heap.size w w' := by
  have hwith := twith_any 0 0 a b w (by decide) (by decide) ha hb (by
    have : a * b ≤ 18446744073709551615 * 18446744073709551615 := Int.mul_le_mul (by omega) (by omega) hb.1 (by decide)
    omega)
  have HR : Hid (a * b % p = r) := hr
  have HP : Hid (0 < p ∧ p < 18446744073709551616) := hp
  clear hr hp ha hb
  go_enter Tryd.func47, Tryd.ntmps47
  go_wp2_with (first
    | (go_at_call 69; refine hwith.mono ?_; rintro e w1 ⟨h, l, rfl, hh, hl, hs, hb1⟩; have HS : Hid ((h * 18446744073709551616 + l) % p = r) := (by show _ = _; rw [hs, ← HR.out]; congr 1; omega); have HH : Hid ((0 ≤ h ∧ h < 18446744073709551616) ∧ (0 ≤ l ∧ l < 18446744073709551616) ∧ Below w.heap.size w w1) := ⟨hh, hl, hb1⟩; clear hh hl hs hb1)
    | (go_at_call 70; refine (trest_any h l p r _ HH.out.1 HH.out.2.1 HP.out HS.out).mono ?_; rintro e w2 ⟨rfl, hb2⟩; have HB := HH.out.2.2.trans (hb2.mono HH.out.2.2.size)))
  go_ret
  exact ⟨rfl, HB⟩
set_option maxHeartbeats 400000 in
theorem mplus_any (p a b r : Int) (w : World) (hp : 0 < p ∧ p ≤ 2147483648) (ha : 0 ≤ a ∧ a < p) (hb : 0 ≤ b ∧ b < p) (hr : (a + b) % p = r) :
    Calls Tryd.prog 46 #[.int .u64 p, .int .u64 a, .int .u64 b] w fun e w' => e = .returned (.int .u64 r) ∧ w' = w := by
  obtain ⟨hp0, hp1⟩ := hp
  have a0 : 0 ≤ a := ha.1
  have a1 : a ≤ 2147483648 := by omega
  have b0 : 0 ≤ b := hb.1
  have b1 : b ≤ 2147483648 := by omega
  have hz : ¬ p = 0 := by omega
  have HR : Hid ((a + b).tmod p = r) := by show _ = _; rw [Int.tmod_eq_emod_of_nonneg (by omega)]; exact hr
  have hz' : (p == 0) = false := by simp; omega
  clear ha hb hr
  go_enter Tryd.func46, Tryd.ntmps46
  go_wp2
  go_ret
  exact ⟨ret_int (by first | exact HR.out | (rw [← HR.out, Int.tmod_eq_emod_of_nonneg (by omega)])), rfl⟩
set_option maxHeartbeats 400000 in
theorem mminus_any (p a b r : Int) (w : World) (hp : 0 < p ∧ p ≤ 2147483648) (ha : 0 ≤ a ∧ a < p) (hb : 0 ≤ b ∧ b < p) (hr : (a - b) % p = r) :
    Calls Tryd.prog 52 #[.int .u64 p, .int .u64 a, .int .u64 b] w fun e w' => e = .returned (.int .u64 r) ∧ w' = w := by
  obtain ⟨hp0, hp1⟩ := hp
  have a0 : 0 ≤ a := ha.1
  have a1 : a ≤ 2147483648 := by omega
  have b0 : 0 ≤ b := hb.1
  have b1 : b ≤ a + p := by omega
  have hz : ¬ p = 0 := by omega
  have HR : Hid ((a + p - b).tmod p = r) := by
    show _ = _; rw [Int.tmod_eq_emod_of_nonneg (by omega), show a + p - b = a - b + p by omega, Int.add_emod_right]; exact hr
  have hz' : (p == 0) = false := by simp; omega
  clear ha hb hr
  go_enter Tryd.func52, Tryd.ntmps52
  go_wp2
  go_ret
  exact ⟨ret_int (by first | exact HR.out | (rw [← HR.out, Int.tmod_eq_emod_of_nonneg (by omega)])), rfl⟩
end Go.Proofs.YtnniipekcbjloaaDoor
/-
  MD: walks: powers of residues, reciprocals; Miller and Rabin's test of what is a prime; the page's trial divisions.
-/
namespace Go.Proofs.YtnniipekcbjloaaDoor
open Go.RowKit Go.Shelf
set_option linter.unusedVariables false
set_option linter.unusedSimpArgs false
theorem mand_one (n b : Nat) (hn : n < 18446744073709551616) : bits BinOp.and IntKind.u64 ((n : Int) / 2 ^ b) 1 = ((n / 2 ^ b % 2 : Nat) : Int) := by
  have hc : (n : Int) / 2 ^ b = ((n / 2 ^ b : Nat) : Int) := by rw [Int.natCast_ediv, Int.natCast_pow]; rfl
  rw [hc]
  have h := bits_and_u64_nat (n / 2 ^ b) 1 (Nat.lt_of_le_of_lt (Nat.div_le_self _ _) hn) (by omega)
  rw [Nat.and_one_is_mod] at h
  exact h
theorem powhalf (a : Int) (n b : Nat) : a ^ (n / 2 ^ b) = a ^ (n / 2 ^ (b + 1)) * a ^ (n / 2 ^ (b + 1)) * a ^ (n / 2 ^ b % 2) := by
  have h : n / 2 ^ b = n / 2 ^ (b + 1) + n / 2 ^ (b + 1) + n / 2 ^ b % 2 := by
    rw [Nat.pow_succ, ← Nat.div_div_eq_div_mul]; omega
  rw [← Int.pow_add, ← Int.pow_add, ← h]
theorem emod_mul (a b p : Int) : a % p * b % p = a * b % p := by
  rw [Int.mul_emod, Int.emod_emod_of_dvd a (Int.dvd_refl p), ← Int.mul_emod]
theorem emod_sq (a p : Int) : a % p * (a % p) % p = a * a % p := (Int.mul_emod a a p).symm
set_option maxRecDepth 100000 in
set_option maxHeartbeats 1000000 in
theorem raised_any (p a r : Int) (n : Nat) (w : World) (hp : 2 ≤ p ∧ p ≤ 2147483648) (ha : 0 ≤ a ∧ a < 18446744073709551616) (hn : n < 18446744073709551616) (hr : a ^ n % p = r) :
    Calls Tryd.prog 86 #[.int .u64 p, .int .u64 a, .int .u64 (n : Int)] w fun e w' => e = .returned (.int .u64 r) ∧ Below w.heap.size w w' := by
  have hlen := mlen64 (n : Int) w (by omega) (by omega)
  simp only [Int.toNat_natCast] at hlen
  have b4 : Lib.bitLen n ≤ 64 := Lib.bitLen_le n 64 (by omega) (by omega)
  have b5 : n < 2 ^ Lib.bitLen n := by
    by_cases h0 : n = 0
    · subst h0; exact Nat.two_pow_pos _
    · exact (bitLen_bounds (y := n) (by omega) hn).2.2
  obtain ⟨l, hl⟩ : ∃ l, Lib.bitLen n = l := ⟨_, rfl⟩
  rw [hl] at hlen b4 b5
  clear hl
  have HR : Hid (a ^ n % p = r ∧ n < 2 ^ l) := ⟨hr, b5⟩
  have HB : Hid ((0 < p ∧ p < 18446744073709551616) ∧ (0 ≤ a ∧ a < 18446744073709551616)) := ⟨by omega, ha⟩
  have h1p : (1 : Int).tmod p = 1 := by rw [Int.tmod_eq_emod_of_nonneg (by decide)]; exact Int.emod_eq_of_lt (by decide) (by omega)
  have hz : (p == 0) = false := by simp; omega
  have hz1 : ¬ p = 0 := by omega
  obtain ⟨hp0, hp1⟩ := hp
  clear hr b5 ha
  go_enter Tryd.func86, Tryd.ntmps86
  go_wp2_with (go_at_call 77; refine hlen.mono ?_; rintro e w3 ⟨rfl, hw3⟩; replace hw3 := hw3.symm; subst hw3)
  go_loopw [7, 8] (fun z i wr => ∃ (b : Nat) (rv : Int), i = .int .i64 ((b : Int) - 1) ∧ b ≤ 64 ∧ z = .int .u64 rv ∧ Hid (rv = a ^ (n / 2 ^ b) % p) ∧ Below w.heap.size w wr) (fun _ i _ => (intOf i + 1).toNat)
  case atStart =>
    exact ⟨l, 1, by go_num, b4, by first | rfl | (congr 1), by (show _ = _; rw [Nat.div_eq_of_lt HR.out.2, Int.pow_zero]; exact (Int.emod_eq_of_lt (by decide) (by omega)).symm), Below.refl _ _⟩
  case round =>
    obtain ⟨b, rv, rfl, hb64, rfl, HV, hbe⟩ := hrel
    have HBE : Hid (Below w.heap.size w wr) := hbe
    clear hbe
    rcases b with _ | b
    · have HE : Hid (rv = r) := by
        show _ = _
        have := HV.out
        rw [Nat.pow_zero, Nat.div_one] at this; rw [this]; exact HR.out.1
      go_wp2
      go_ret
      exact ⟨ret_int HE.out, HBE.out⟩
    · have hand := mand_one n b hn
      have hph := powhalf a n b
      have hrv0 : 0 ≤ rv ∧ rv < p := by rw [HV.out]; exact ⟨Int.emod_nonneg _ (by omega), Int.emod_lt_of_pos _ (by omega)⟩
      obtain ⟨r1, hr1⟩ : ∃ r1, rv * rv % p = r1 := ⟨_, rfl⟩
      have hr1b : 0 ≤ r1 ∧ r1 < p := by rw [← hr1]; exact ⟨Int.emod_nonneg _ (by omega), Int.emod_lt_of_pos _ (by omega)⟩
      have HV1 : Hid (r1 = a ^ (n / 2 ^ (b + 1)) * a ^ (n / 2 ^ (b + 1)) % p) := by
        show _ = _
        rw [← hr1, HV.out, emod_sq]
      have HC1 : Hid (∀ W : World, Calls Tryd.prog 47 #[.int .u64 p, .int .u64 rv, .int .u64 rv] W fun e w' => e = .returned (.int .u64 r1) ∧ Below W.heap.size W w') :=
        fun W => mtimes_any p rv rv r1 W HB.out.1 ⟨hrv0.1, by omega⟩ ⟨hrv0.1, by omega⟩ hr1
      clear hr1 hrv0
      by_cases hbit : n / 2 ^ b % 2 = 1
      · obtain ⟨r2, hr2⟩ : ∃ r2, r1 * a % p = r2 := ⟨_, rfl⟩
        have HC2 : Hid (∀ W : World, Calls Tryd.prog 47 #[.int .u64 p, .int .u64 r1, .int .u64 a] W fun e w' => e = .returned (.int .u64 r2) ∧ Below W.heap.size W w') :=
          fun W => mtimes_any p r1 a r2 W HB.out.1 ⟨hr1b.1, by omega⟩ HB.out.2 hr2
        have HV2 : Hid (r2 = a ^ (n / 2 ^ b) % p) := by
          show _ = _
          rw [hph, hbit, Int.pow_succ, Int.pow_zero, Int.one_mul, ← hr2, HV1.out, emod_mul]
        rw [hbit] at hand
        clear hph hbit hr2 hr1b
        go_wp2_with (first
          | (go_at_call 47; have _t := HB1; refine (HC2.out _).mono ?_; rintro e w5 ⟨rfl, hb5⟩; have HB2 : Hid (Below w.heap.size w w5) := (by have h := HB1.out; exact h.trans (hb5.mono h.size)); clear hb5)
          | (go_at_call 47; refine (HC1.out _).mono ?_; rintro e w4 ⟨rfl, hb4⟩; have HB1 : Hid (Below w.heap.size w w4) := (by have h := HBE.out; exact h.trans (hb4.mono h.size)); clear hb4))
        go_roundw
        case rel => exact ⟨b, r2, rfl, by omega, rfl, HV2, HB2.out⟩
        case measure => simp [intOf]
      · have hbit0 : n / 2 ^ b % 2 = 0 := by omega
        have HV2 : Hid (r1 = a ^ (n / 2 ^ b) % p) := by
          show _ = _
          rw [hph, hbit0, Int.pow_zero, Int.mul_one]; exact HV1.out
        rw [hbit0] at hand
        clear hph hbit hbit0 hr1b
        go_wp2_with (first
          | (go_at_call 47; refine (HC1.out _).mono ?_; rintro e w4 ⟨rfl, hb4⟩; have HB1 : Hid (Below w.heap.size w w4) := (by have h := HBE.out; exact h.trans (hb4.mono h.size)); clear hb4))
        go_roundw
        case rel => exact ⟨b, r1, rfl, by omega, rfl, HV2, HB1.out⟩
        case measure => simp [intOf]
set_option maxHeartbeats 400000 in
theorem minverse_any (p a r : Int) (w : World) (hp : 2 ≤ p ∧ p ≤ 2147483648) (ha : 0 ≤ a ∧ a < 18446744073709551616) (hr : a ^ (p.toNat - 2) % p = r) :
    Calls Tryd.prog 73 #[.int .u64 p, .int .u64 a] w fun e w' => e = .returned (.int .u64 r) ∧ Below w.heap.size w w' := by
  obtain ⟨n, rfl⟩ : ∃ n : Nat, p = (n : Int) + 2 := ⟨p.toNat - 2, by omega⟩
  rw [show ((n : Int) + 2).toNat - 2 = n by omega] at hr
  have hcon := raised_any ((n : Int) + 2) a r n w hp ha (by omega) hr
  have hn : (n : Int) ≤ 2147483646 := by omega
  have e : (n : Int) + 2 - 2 = (n : Int) := by omega
  clear hr hp ha
  go_enter Tryd.func73, Tryd.ntmps73
  go_wp2_with (go_at_call 86; refine hcon.mono ?_; rintro e w3 ⟨rfl, hw3⟩)
  go_ret
  exact ⟨rfl, hw3⟩
end Go.Proofs.YtnniipekcbjloaaDoor
/-
  ME: walks: a prime looks like one to Miller and Rabin; the page's trial divisions tell primes alone.
-/
namespace Go.Proofs.YtnniipekcbjloaaDoor
open Go.RowKit Go.Shelf
set_option linter.unusedVariables false
set_option linter.unusedSimpArgs false
theorem mctz_spec {x : Nat} (h0 : x ≠ 0) (h : x < 18446744073709551616) : ∃ m, x = 2 ^ Lib.ctz 64 x * (2 * m + 1) ∧ Lib.ctz 64 x < 64 := by
  have e : Lib.ctz 64 x = Lib.ctzFrom 64 x := by simp [Lib.ctz, h0]
  rw [e]
  exact Lib.ctzFrom_spec 64 x (by omega) h
/-- the power of p - 1 is 1 -/
theorem IsPr.little {p a : Int} (h : IsPr p) (h0 : 0 < a) (h1 : a < p) : a ^ (p.toNat - 1) % p = 1 := by
  have hp := h.two
  obtain ⟨k, hk⟩ := h.inv h0 h1
  have e : a ^ (p.toNat - 1) = a * a ^ (p.toNat - 2) := by
    rw [show p.toNat - 1 = (p.toNat - 2) + 1 by omega, Int.pow_succ]; grind
  rw [e, hk, Int.add_mul_emod_self_left]
  exact Int.emod_eq_of_lt (by decide) (by omega)
set_option maxRecDepth 100000 in
set_option maxHeartbeats 1000000 in
theorem looksSo_any (p a : Int) (w : World) (hpr : IsPr p) (hp : p ≤ 2147483648) (ha : 0 < a ∧ a < p) (hT : TabAt 0 Lib.deBruijn64tab w) :
    Calls Tryd.prog 71 #[.int .u64 p, .int .u64 a] w fun e w' => e = .returned (.bool true) ∧ Below w.heap.size w w' := by
  have hp2 := hpr.two
  obtain ⟨m, hm⟩ : ∃ m : Nat, p = (m : Int) + 1 := ⟨p.toNat - 1, by omega⟩
  subst hm
  have hm64 : m < 18446744073709551616 := by omega
  have htz := mtrailing m w hm64 hT
  obtain ⟨k, hk, ht64⟩ := mctz_spec (x := m) (by omega) hm64
  obtain ⟨t, ht⟩ : ∃ t, Lib.ctz 64 m = t := ⟨_, rfl⟩
  rw [ht] at htz hk ht64
  have hD : m / 2 ^ t * 2 ^ t = m := by
    have h1 : m / 2 ^ t = 2 * k + 1 := by
      rw [hk]; exact Nat.mul_div_cancel_left _ (Nat.two_pow_pos t)
    rw [h1, Nat.mul_comm]; exact hk.symm
  have hcast : (m : Int) / 2 ^ t = ((m / 2 ^ t : Nat) : Int) := by rw [Int.natCast_ediv, Int.natCast_pow]; rfl
  obtain ⟨D, hDd⟩ : ∃ D, m / 2 ^ t = D := ⟨_, rfl⟩
  rw [hDd] at hcast hD
  have hDm : D ≤ m := by rw [← hDd]; exact Nat.div_le_self _ _
  obtain ⟨x0, hx0⟩ : ∃ x0, a ^ D % ((m : Int) + 1) = x0 := ⟨_, rfl⟩
  have hrai := fun W => raised_any ((m : Int) + 1) a x0 D W ⟨hp2, hp⟩ ⟨by omega, by omega⟩ (by omega) hx0
  have HF : Hid (a ^ (D * 2 ^ t) % ((m : Int) + 1) = 1) := by
    show _ = _
    rw [hD]
    have := hpr.little ha.1 ha.2
    rwa [show ((m : Int) + 1).toNat - 1 = m by omega] at this
  have HX0 : Hid (x0 = a ^ (D * 2 ^ 0) % ((m : Int) + 1)) := by show _ = _; rw [Nat.pow_zero, Nat.mul_one]; exact hx0.symm
  have HP : Hid (IsPr ((m : Int) + 1) ∧ (m : Int) + 1 ≤ 2147483648 ∧ 2 ≤ (m : Int) + 1) := ⟨hpr, hp, hp2⟩
  have e1 : (m : Int) + 1 - 1 = (m : Int) := by omega
  have hm1 : (m : Int) ≤ 2147483647 := by omega
  have hm2 : (1 : Int) ≤ (m : Int) := by omega
  have ht0 : (0 : Int) ≤ (t : Int) := by omega
  have ht1 : (t : Int) ≤ 63 := by omega
  have hxb : 0 ≤ x0 ∧ x0 < (m : Int) + 1 := by rw [← hx0]; exact ⟨Int.emod_nonneg _ (by omega), Int.emod_lt_of_pos _ (by omega)⟩
  clear hk hD hDd ht hx0 hpr hp hp2 ha
  by_cases h1 : x0 = 1
  · subst h1
    go_enter Tryd.func71, Tryd.ntmps71
    go_wp2_with (first
      | (go_at_call 85; refine htz.mono ?_; rintro e w1 ⟨rfl, hw1⟩; replace hw1 := hw1.symm; subst hw1)
      | (go_at_call 86; refine (hrai _).mono ?_; rintro e w2 ⟨rfl, hb2⟩))
    go_ret
    exact ⟨rfl, hb2⟩
  · have h1' : (x0 == 1) = false := by simp; exact h1
    have HN : Hid (¬ x0 = 1) := h1
    have HXB : Hid (0 ≤ x0 ∧ x0 < (m : Int) + 1) := hxb
    clear h1 hxb
    go_enter Tryd.func71, Tryd.ntmps71
    go_wp2_with (first
      | (go_at_call 85; refine htz.mono ?_; rintro e w1 ⟨rfl, hw1⟩; replace hw1 := hw1.symm; subst hw1)
      | (go_at_call 86; refine (hrai _).mono ?_; rintro e w2 ⟨rfl, hb2⟩))
    clear h1'
    go_loopw [7, 22] (fun z i wr => ∃ (j : Nat) (x : Int), i = .int .i64 (j : Int) ∧ j ≤ t ∧ z = .int .u64 x ∧ Hid (x = a ^ (D * 2 ^ j) % ((m : Int) + 1) ∧ ¬ x = 1 ∧ 0 ≤ x ∧ x < (m : Int) + 1) ∧ Below w.heap.size w wr) (fun _ i _ => t - (intOf i).toNat)
    case atStart => exact ⟨0, x0, by go_num, Nat.zero_le _, rfl, ⟨HX0.out, HN.out, HXB.out⟩, hb2⟩
    case round =>
      obtain ⟨j, x, rfl, hjt, rfl, HV, hbe⟩ := hrel
      have HBE : Hid (Below w.heap.size w wr) := hbe
      clear hbe hb2
      by_cases hj : j < t
      · by_cases hx : x = (m : Int)
        · have hxm : (x == (m : Int)) = true := by simpa using hx
          have hlt : (j : Int) < (t : Int) := by omega
          clear hx
          go_wp2
          go_ret
          exact ⟨rfl, HBE.out⟩
        · have hxm : (x == (m : Int)) = false := by simpa using hx
          obtain ⟨r1, hr1⟩ : ∃ r1, x * x % ((m : Int) + 1) = r1 := ⟨_, rfl⟩
          have HC1 : Hid (∀ W : World, Calls Tryd.prog 47 #[.int .u64 ((m : Int) + 1), .int .u64 x, .int .u64 x] W fun e w' => e = .returned (.int .u64 r1) ∧ Below W.heap.size W w') :=
            fun W => mtimes_any _ x x r1 W (by omega) (by have := HV.out; omega) (by have := HV.out; omega) hr1
          have HV2 : Hid (r1 = a ^ (D * 2 ^ (j + 1)) % ((m : Int) + 1) ∧ ¬ r1 = 1 ∧ 0 ≤ r1 ∧ r1 < (m : Int) + 1) := by
            have hv := HV.out
            refine ⟨?_, ?_, ?_, ?_⟩
            · rw [← hr1, hv.1, emod_sq, ← Int.pow_add]
              have e2 : D * 2 ^ j + D * 2 ^ j = D * 2 ^ (j + 1) := by rw [Nat.pow_succ, ← Nat.mul_assoc]; omega
              rw [e2]
            · intro e
              rcases HP.out.1.root (x := x) hv.2.2.1 hv.2.2.2 (by rw [hr1]; exact e) with h | h
              · exact hv.2.1 h
              · exact hx (by omega)
            · rw [← hr1]; exact Int.emod_nonneg _ (by omega)
            · rw [← hr1]; exact Int.emod_lt_of_pos _ (by omega)
          have hlt : (j : Int) < (t : Int) := by omega
          clear hx hr1
          go_wp2_with (go_at_call 47; refine (HC1.out _).mono ?_; rintro e w4 ⟨rfl, hb4⟩; have HB1 : Hid (Below w.heap.size w w4) := (by have h := HBE.out; exact h.trans (hb4.mono h.size)); clear hb4)
          go_roundw
          case rel => exact ⟨j + 1, r1, by go_num, by omega, rfl, HV2, HB1.out⟩
          case measure => simp [intOf]; omega
      · exfalso
        have hv := HV.out
        have : j = t := by omega
        subst this
        exact hv.2.1 (hv.1.trans HF.out)
theorem mtab_later {W W' : World} (h : TabAt 0 Lib.deBruijn64tab W) (hb : Below W.heap.size W W') : TabAt 0 Lib.deBruijn64tab W' := fun j hj => (hb.cell (p := ⟨0, j, none⟩) (cell_lt (h j hj))).trans (h j hj)
theorem pr_rem {p b : Int} (h : IsPr p) (hb : 2 ≤ b) (hlt : b < p) : p % b ≠ 0 := fun e => h.no b hb hlt (Int.dvd_of_emod_eq_zero e)
set_option maxRecDepth 100000 in
set_option maxHeartbeats 2000000 in
theorem isPrime_any (p : Int) (w : World) (hpr : IsPr p) (hp : p < 2147483648) (hT : TabAt 0 Lib.deBruijn64tab w) :
    Calls Tryd.prog 48 #[.int .u64 p] w fun e w' => e = .returned (.bool true) ∧ Below w.heap.size w w' := by
  have hp2 := hpr.two
  have i0 : ∀ w, (Instr.index 95 (.agg #[.int .u64 2, .int .u64 3, .int .u64 5, .int .u64 7]) (.int .i64 0)).run Tryd.prog w = .ok (.int .u64 2) w := fun _ => by kernel_rfl
  have i1 : ∀ w, (Instr.index 95 (.agg #[.int .u64 2, .int .u64 3, .int .u64 5, .int .u64 7]) (.int .i64 1)).run Tryd.prog w = .ok (.int .u64 3) w := fun _ => by kernel_rfl
  have i2 : ∀ w, (Instr.index 95 (.agg #[.int .u64 2, .int .u64 3, .int .u64 5, .int .u64 7]) (.int .i64 2)).run Tryd.prog w = .ok (.int .u64 5) w := fun _ => by kernel_rfl
  have i3 : ∀ w, (Instr.index 95 (.agg #[.int .u64 2, .int .u64 3, .int .u64 5, .int .u64 7]) (.int .i64 3)).run Tryd.prog w = .ok (.int .u64 7) w := fun _ => by kernel_rfl
  by_cases h7 : p ≤ 7
  · have hc : p = 2 ∨ p = 3 ∨ p = 5 ∨ p = 7 := by
      by_cases h4 : p = 4
      · subst h4; exact absurd (by decide) (hpr.no 2 (by decide) (by decide))
      · by_cases h6 : p = 6
        · subst h6; exact absurd (by decide) (hpr.no 2 (by decide) (by decide))
        · omega
    clear hpr hp h7 hp2
    rcases hc with rfl | rfl | rfl | rfl <;>
    · go_enter Tryd.func48, Tryd.ntmps48
      go_wp2
      refine wp_loop_rounds 4 ?_
      repeat (rw [rounds_succ]; go_wp2)
      go_ret
      exact ⟨rfl, Below.refl _ _⟩
  · have h0 : 0 ≤ p := by omega
    have hplt : ¬ 2147483648 ≤ p := by omega
    have hp22 : ¬ p < 2 := by omega
    have r2 : (p % 2 == 0) = false := by simpa using pr_rem hpr (b := 2) (by decide) (by omega)
    have r3 : (p % 3 == 0) = false := by simpa using pr_rem hpr (b := 3) (by decide) (by omega)
    have r5 : (p % 5 == 0) = false := by simpa using pr_rem hpr (b := 5) (by decide) (by omega)
    have r7 : (p % 7 == 0) = false := by simpa using pr_rem hpr (b := 7) (by decide) (by omega)
    have H2 := fun W hW => looksSo_any p 2 W hpr (by omega) (by omega) hW
    have H3 := fun W hW => looksSo_any p 3 W hpr (by omega) (by omega) hW
    have H5 := fun W hW => looksSo_any p 5 W hpr (by omega) (by omega) hW
    have H7 := fun W hW => looksSo_any p 7 W hpr (by omega) (by omega) hW
    have HH : Hid (TabAt 0 Lib.deBruijn64tab w) := hT
    clear hpr hT h7 hp2
    go_enter Tryd.func48, Tryd.ntmps48
    go_wp2
    refine wp_loop_rounds 5 ?_
    (rw [rounds_succ]; go_wp2)
    (rw [rounds_succ]; go_wp2)
    (rw [rounds_succ]; go_wp2)
    (rw [rounds_succ]; go_wp2)
    (rw [rounds_succ]; go_wp2)
    refine wp_loop_rounds 5 ?_
    (rw [rounds_succ]; go_wp2_with (go_at_call 71; refine (H2 _ HH.out).mono ?_; rintro e w2 ⟨rfl, hb2⟩))
    (rw [rounds_succ]; go_wp2_with (go_at_call 71; refine (H3 _ (mtab_later HH.out hb2)).mono ?_; rintro e w3 ⟨rfl, hb3'⟩; have hb3 := hb2.trans (hb3'.mono hb2.size); clear hb3'))
    (rw [rounds_succ]; go_wp2_with (go_at_call 71; refine (H5 _ (mtab_later HH.out hb3)).mono ?_; rintro e w5 ⟨rfl, hb5'⟩; have hb5 := hb3.trans (hb5'.mono hb3.size); clear hb5'))
    (rw [rounds_succ]; go_wp2_with (go_at_call 71; refine (H7 _ (mtab_later HH.out hb5)).mono ?_; rintro e w7 ⟨rfl, hb7'⟩; have hb7 := hb5.trans (hb7'.mono hb5.size); clear hb7'))
    (rw [rounds_succ]; go_wp2)
    go_ret
    exact ⟨rfl, hb7⟩
end Go.Proofs.YtnniipekcbjloaaDoor
