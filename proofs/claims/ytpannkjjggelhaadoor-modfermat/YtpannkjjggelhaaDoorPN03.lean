/-
  JB0: polynomials in plain: values, shifts, products (what was JB's first part).
-/
import Derived.Test.YtpannkjjggelhaaDoorPN01
/- Polynomials in plain: values, shifts by Horner's steps, products by rows, mirrored and turned ones; how many limbs their coefficients have. No Go text is named here. -/
namespace Go.Proofs.YtpannkjjggelhaaDoor
open Go.RowKit
set_option linter.unusedVariables false
set_option linter.unusedSimpArgs false
/-- a polynomial's value -/
def ev : List Int → Int → Int
  | [], _ => 0
  | a :: p, x => a + x * ev p x
/-- a polynomial that is 0 at all great places is 0 -/
theorem zero_of_ev : ∀ {p : List Int} {N : Nat}, (∀ x : Int, (N : Int) < x → ev p x = 0) → ∀ a ∈ p, a = 0 := by
  intro p
  induction p with
  | nil => intro N h a ha; cases ha
  | cons a p ih =>
    intro N h
    have ha : a = 0 := by
      have hx : (N : Int) < (a.natAbs : Int) + N + 1 := by omega
      have h1 := h _ hx
      simp only [ev] at h1
      have h2 : ((a.natAbs : Int) + N + 1) ∣ a := ⟨-(ev p ((a.natAbs : Int) + N + 1)), by rw [Int.mul_neg]; omega⟩
      have h3 : ((a.natAbs : Int) + N + 1).natAbs ∣ a.natAbs := Int.natAbs_dvd_natAbs.2 h2
      rcases Nat.eq_zero_or_pos a.natAbs with h4 | h4
      · omega
      · have := Nat.le_of_dvd h4 h3
        omega
    subst ha
    have h3 : ∀ x : Int, (N : Int) < x → ev p x = 0 := by
      intro x hx
      have h1 := h x (by omega)
      simp only [ev, Int.zero_add] at h1
      rcases Int.mul_eq_zero.1 h1 with h2 | h2
      · omega
      · exact h2
    intro b hb
    rcases List.mem_cons.1 hb with rfl | hb
    · rfl
    · exact ih h3 b hb
/-- polynomials with the same values, and as many coefficients, are the same -/
theorem eq_of_ev : ∀ {p q : List Int}, p.length = q.length → (∀ x, ev p x = ev q x) → p = q := by
  intro p q hl h
  have key : ∀ (p q : List Int), p.length = q.length → ∀ x, ev (List.zipWith (fun a b => a - b) p q) x = ev p x - ev q x := by
    intro p
    induction p with
    | nil => intro q hl x; cases q <;> simp_all [ev]
    | cons a p ih =>
      intro q hl x
      cases q with
      | nil => simp at hl
      | cons b q =>
        simp only [List.zipWith_cons_cons, ev]
        rw [ih q (by simpa using hl) x, Int.mul_sub]; omega
  have hz := zero_of_ev (p := List.zipWith (fun a b => a - b) p q) (N := 0) (fun x _ => by rw [key p q hl, h x]; omega)
  apply List.ext_getElem hl
  intro i h1 h2
  have hm : p[i] - q[i] ∈ List.zipWith (fun a b => a - b) p q := by
    rw [List.mem_iff_getElem]
    exact ⟨i, by simp; omega, by simp⟩
  have := hz _ hm
  omega
/-- Horner's step: a + (x + c) s -/
def hor (c : Int) : Int → List Int → List Int
  | a, [] => [a]
  | a, s :: t => (a + c * s) :: hor c s t
/-- the first list added to the second one, place by place -/
def addTo : List Int → List Int → List Int
  | [], l => l
  | a :: p, [] => a :: p
  | a :: p, b :: l => (a + b) :: addTo p l
theorem addTo_ev (p l : List Int) (x : Int) : ev (addTo p l) x = ev p x + ev l x := by
  induction p generalizing l with
  | nil => simp [addTo, ev]
  | cons a p ih => cases l with
    | nil => simp [addTo, ev]
    | cons b l => simp only [addTo, ev, ih]; grind
theorem addTo_len (p l : List Int) (h : p.length ≤ l.length) : (addTo p l).length = l.length := by
  induction p generalizing l with
  | nil => rfl
  | cons a p ih => cases l with
    | nil => simp at h
    | cons b l => simp only [addTo, List.length_cons]; rw [ih l (by simpa using h)]
theorem addTo_dig (p l : List Int) (k : Nat) : dig (addTo p l) k = dig p k + dig l k := by
  induction p generalizing l k with
  | nil => simp [addTo, dig]
  | cons a p ih => cases l with
    | nil => simp [addTo, dig]
    | cons b l => cases k with
      | zero => simp [addTo, dig]
      | succ k => simpa [addTo, dig] using ih l k
theorem map_ev (a : Int) (s : List Int) (x : Int) : ev (s.map (a * ·)) x = a * ev s x := by
  induction s with
  | nil => simp [ev]
  | cons b s ih => simp only [List.map_cons, ev, ih]; grind
theorem map_dig (a : Int) (s : List Int) (k : Nat) : dig (s.map (a * ·)) k = a * dig s k := by
  unfold dig
  rw [List.getD_eq_getElem?_getD, List.getD_eq_getElem?_getD, List.getElem?_map]
  cases s[k]? <;> simp
theorem rep_ev (n : Nat) (x : Int) : ev (List.replicate n 0) x = 0 := by
  induction n with
  | zero => rfl
  | succ n ih => simp [List.replicate_succ, ev, ih]
theorem rep_dig (n k : Nat) : dig (List.replicate n 0) k = 0 := by
  unfold dig
  rw [List.getD_eq_getElem?_getD, List.getElem?_replicate]
  split <;> rfl
/-- the product -/
def mulL : List Int → List Int → List Int
  | [], s => List.replicate (s.length - 1) 0
  | a :: p, s => addTo (s.map (a * ·)) (0 :: mulL p s)
theorem mulL_len (p s : List Int) (h : 0 < s.length) : (mulL p s).length = p.length + s.length - 1 := by
  induction p with
  | nil => simp [mulL]
  | cons a p ih =>
    rw [mulL, addTo_len _ _ (by simp [ih]; omega)]
    simp [ih]; omega
theorem mulL_ev (p s : List Int) (x : Int) : ev (mulL p s) x = ev p x * ev s x := by
  induction p with
  | nil => simp [mulL, rep_ev, ev]
  | cons a p ih => simp only [mulL, addTo_ev, map_ev, ev, ih]; grind
theorem dig_past {s : List Int} {k : Nat} (h : s.length ≤ k) : dig s k = 0 := by
  unfold dig; rw [List.getD_eq_getElem?_getD, List.getElem?_eq_none h]; rfl
theorem dig_cons (a : Int) (p : List Int) (k : Nat) : dig (a :: p) (k + 1) = dig p k := by simp [dig]
/-- the product's lead -/
theorem mulL_lead (p s : List Int) (hp : 0 < p.length) (h : 0 < s.length) : dig (mulL p s) (p.length + s.length - 2) = dig p (p.length - 1) * dig s (s.length - 1) := by
  induction p with
  | nil => simp at hp
  | cons a p ih =>
    rw [mulL, addTo_dig, map_dig]
    cases p with
    | nil =>
      have e1 : ([a] : List Int).length + s.length - 2 = s.length - 1 := by simp; omega
      rw [e1]
      cases hs : s.length - 1 with
      | zero => simp [dig]
      | succ k => rw [dig_cons]; simp only [mulL, rep_dig]; simp [dig]
    | cons b p =>
      have e1 : (a :: b :: p).length + s.length - 2 = ((b :: p).length + s.length - 2) + 1 := by simp; omega
      rw [e1, dig_past (s := s) (by simp; omega), dig_cons, ih (by simp)]
      have e2 : (a :: b :: p).length - 1 = ((b :: p).length - 1) + 1 := by simp
      rw [e2, dig_cons]; simp
/-- a coefficient is added to -/
theorem ev_set (l : List Int) (j : Nat) (v x : Int) (h : j < l.length) : ev (l.set j (dig l j + v)) x = ev l x + v * x ^ j := by
  induction l generalizing j with
  | nil => simp at h
  | cons a l ih => cases j with
    | zero => simp [ev, dig]; omega
    | succ j =>
      have := ih j (by simpa using h)
      simp only [List.set_cons_succ, ev, dig_cons, this, Int.pow_succ]; grind
theorem ev_take (l : List Int) (j : Nat) (x : Int) (h : j < l.length) : ev (l.take (j + 1)) x = ev (l.take j) x + dig l j * x ^ j := by
  induction l generalizing j with
  | nil => simp at h
  | cons a l ih => cases j with
    | zero => simp [ev, dig]
    | succ j =>
      have := ih j (by simpa using h)
      simp only [List.take_succ_cons, ev, dig_cons, this, Int.pow_succ]; grind
/-- the sums of a product by rows: all of the rows above i, of row i the first k -/
def PMulSt (p s : List Int) (i k : Nat) (l : List Int) : Prop := l.length = p.length + s.length - 1 ∧ ∀ x, ev l x = ev (p.take i) x * ev s x + dig p i * x ^ i * ev (s.take k) x
theorem PMulSt.start (p s : List Int) : PMulSt p s 0 0 (List.replicate (p.length + s.length - 1) 0) := ⟨by simp, fun x => by simp [rep_ev, ev]⟩
theorem PMulSt.step {p s l : List Int} {i k : Nat} (h : PMulSt p s i k l) (hi : i < p.length) (hk : k < s.length) : PMulSt p s i (k + 1) (l.set (i + k) (dig l (i + k) + dig p i * dig s k)) := by
  refine ⟨by simpa using h.1, fun x => ?_⟩
  rw [ev_set _ _ _ _ (by rw [h.1]; omega), h.2 x, ev_take _ _ _ hk, Int.pow_add]; grind
theorem PMulSt.row {p s l : List Int} {i : Nat} (h : PMulSt p s i s.length l) (hi : i < p.length) : PMulSt p s (i + 1) 0 l := by
  refine ⟨h.1, fun x => ?_⟩
  rw [h.2 x, ev_take _ _ _ hi, List.take_length]
  simp [ev]; grind
theorem PMulSt.done {p s l : List Int} (h : PMulSt p s p.length 0 l) (hs : 0 < s.length) : l = mulL p s :=
  eq_of_ev (by rw [h.1, mulL_len _ _ hs]) fun x => by rw [h.2 x, mulL_ev]; simp [ev]
end Go.Proofs.YtpannkjjggelhaaDoor
/-
  MA: plain mathematics modulo a prime: primes, binomials, Frobenius, Fermat, reciprocals; polynomials modulo p, modulo p and g; products and divisions place by place.
-/
namespace Go.Proofs.YtpannkjjggelhaaDoor
open Go.RowKit
set_option linter.unusedVariables false
set_option linter.unusedSimpArgs false
/-- p is a prime -/
structure IsPr (p : Int) : Prop where
  two : 2 ≤ p
  no : ∀ d : Int, 2 ≤ d → d < p → ¬ d ∣ p
theorem IsPr.of_sq {p : Int} (h2 : 2 ≤ p) (h : ∀ d : Int, 2 ≤ d → d * d ≤ p → p % d ≠ 0) : IsPr p := by
  refine ⟨h2, fun d hd hlt hdv => ?_⟩
  obtain ⟨e, he⟩ := hdv
  have he0 : 0 < e := by
    by_cases h0 : 0 < e
    · exact h0
    · have : d * e ≤ d * 0 := Int.mul_le_mul_of_nonneg_left (by omega) (by omega)
      omega
  have he2 : 2 ≤ e := by
    by_cases h1 : e = 1
    · subst h1; omega
    · omega
  by_cases hs : d * d ≤ p
  · exact h d hd hs (by rw [he]; exact Int.mul_emod_right d e)
  · have hed : e < d := by
      by_cases h1 : e < d
      · exact h1
      · have : d * d ≤ d * e := Int.mul_le_mul_of_nonneg_left (by omega) (by omega)
        omega
    have h3 : e * e ≤ d * e := Int.mul_le_mul_of_nonneg_right (by omega) (by omega)
    exact h e he2 (by omega) (by rw [he]; exact Int.mul_emod_left d e)
theorem IsPr.gcd {p a : Int} (h : IsPr p) (ha : ¬ p ∣ a) : Int.gcd a p = 1 := by
  have h1 : ((Int.gcd a p : Nat) : Int) ∣ p := Int.gcd_dvd_right a p
  have h2 : ((Int.gcd a p : Nat) : Int) ∣ a := Int.gcd_dvd_left a p
  have hp := h.two
  have h0 : Int.gcd a p ≠ 0 := by
    intro e; rw [e] at h1; have := Int.zero_dvd.1 h1; omega
  have hle : ((Int.gcd a p : Nat) : Int) ≤ p := Int.le_of_dvd (by omega) h1
  by_cases h3 : ((Int.gcd a p : Nat) : Int) = p
  · rw [h3] at h2; exact absurd h2 ha
  · by_cases h4 : Int.gcd a p = 1
    · exact h4
    · exact absurd h1 (h.no _ (by omega) (by omega))
theorem IsPr.dvd_mul {p a b : Int} (h : IsPr p) (hd : p ∣ a * b) : p ∣ a ∨ p ∣ b := by
  by_cases ha : p ∣ a
  · exact Or.inl ha
  · right
    have h1 := h.gcd ha
    rw [Int.gcd_eq_natAbs_gcd_natAbs] at h1
    have h2 : p.natAbs ∣ a.natAbs * b.natAbs := by rw [← Int.natAbs_mul]; exact Int.natAbs_dvd_natAbs.2 hd
    exact Int.natAbs_dvd_natAbs.1 (Nat.Coprime.dvd_of_dvd_mul_left (by rw [Nat.Coprime, Nat.gcd_comm]; exact h1) h2)
theorem IsPr.small {p a : Int} (h : IsPr p) (h0 : 0 < a) (h1 : a < p) : ¬ p ∣ a := fun hd => by
  have := Int.le_of_dvd h0 hd; omega
/-- how many ways to take k of n -/
def cho : Nat → Nat → Nat
  | _, 0 => 1
  | 0, _ + 1 => 0
  | n + 1, k + 1 => cho n k + cho n (k + 1)
theorem cho_right (n : Nat) : cho n 0 = 1 := by cases n <;> rfl
theorem cho_gt : ∀ (n k : Nat), n < k → cho n k = 0
  | 0, _ + 1, _ => rfl
  | n + 1, k + 1, h => by rw [cho, cho_gt n k (by omega), cho_gt n (k + 1) (by omega)]
theorem cho_self : ∀ n : Nat, cho n n = 1
  | 0 => rfl
  | n + 1 => by rw [cho, cho_self n, cho_gt n (n + 1) (by omega)]
theorem cho_mul : ∀ n k : Nat, (k + 1) * cho (n + 1) (k + 1) = (n + 1) * cho n k := by
  intro n
  induction n with
  | zero => intro k; cases k with
    | zero => rfl
    | succ k => simp [cho]
  | succ n ih =>
    intro k
    rw [cho]
    cases k with
    | zero =>
      have := ih 0
      rw [cho_right] at this ⊢
      omega
    | succ j =>
      have h1 := ih j
      have h2 := ih (j + 1)
      have h3 : cho (n + 1) (j + 1) = cho n j + cho n (j + 1) := rfl
      have e : (j + 1 + 1) * (cho (n + 1) (j + 1) + cho (n + 1) (j + 1 + 1)) = (j + 1) * cho (n + 1) (j + 1) + cho (n + 1) (j + 1) + (j + 1 + 1) * cho (n + 1) (j + 1 + 1) := by grind
      rw [e, h1, h2, h3]; grind
theorem IsPr.chop {p : Int} (h : IsPr p) {k : Nat} (h1 : 1 ≤ k) (h2 : (k : Int) < p) : ∃ c : Int, (cho p.toNat k : Int) = p * c := by
  have hp := h.two
  obtain ⟨j, rfl⟩ : ∃ j, k = j + 1 := ⟨k - 1, by omega⟩
  obtain ⟨n, hn⟩ : ∃ n, p.toNat = n + 1 := ⟨p.toNat - 1, by omega⟩
  have e := cho_mul n j
  have e' : ((j + 1 : Nat) : Int) * ((cho (n + 1) (j + 1) : Nat) : Int) = p * ((cho n j : Nat) : Int) := by
    rw [← Int.natCast_mul, e, Int.natCast_mul]; congr 1; omega
  have hd : p ∣ ((j + 1 : Nat) : Int) * ((cho (n + 1) (j + 1) : Nat) : Int) := ⟨_, e'⟩
  rw [hn]
  rcases h.dvd_mul hd with h3 | h3
  · exact absurd h3 (h.small (by omega) h2)
  · exact h3
/-- the first m parts of (a + b)^n multiplied out -/
def bs (n : Nat) (a b : Int) : Nat → Int
  | 0 => 0
  | m + 1 => bs n a b m + cho n m * a ^ m * b ^ (n - m)
theorem bs_one (n : Nat) (a b : Int) : bs n a b 1 = b ^ n := by simp [bs, cho_right]
theorem bs_step (n : Nat) (a b : Int) : ∀ m, m ≤ n → bs (n + 1) a b (m + 1) = b * bs n a b (m + 1) + a * bs n a b m := by
  intro m
  induction m with
  | zero => intro _; rw [bs_one, bs_one]; simp [bs, Int.pow_succ]; grind
  | succ m ih =>
    intro hm
    have h1 := ih (by omega)
    rw [bs, h1]
    have e1 : bs n a b (m + 1 + 1) = bs n a b (m + 1) + cho n (m + 1) * a ^ (m + 1) * b ^ (n - (m + 1)) := rfl
    have e2 : bs n a b (m + 1) = bs n a b m + cho n m * a ^ m * b ^ (n - m) := rfl
    have e3 : b ^ (n - m) = b * b ^ (n - (m + 1)) := by
      rw [show n - m = (n - (m + 1)) + 1 by omega, Int.pow_succ]; grind
    have e4 : n + 1 - (m + 1) = n - m := by omega
    have e5 : (cho (n + 1) (m + 1) : Int) = (cho n m : Int) + (cho n (m + 1) : Int) := by
      rw [show cho (n + 1) (m + 1) = cho n m + cho n (m + 1) from rfl]; omega
    rw [e4, e5, e1, e2, e3, Int.pow_succ]
    generalize b ^ (n - (m + 1)) = B
    generalize a ^ m = A
    generalize (cho n m : Int) = c
    generalize (cho n (m + 1) : Int) = d
    generalize bs n a b m = S
    grind
theorem binom (n : Nat) (a b : Int) : (a + b) ^ n = bs n a b (n + 1) := by
  induction n with
  | zero => simp [bs, cho]
  | succ n ih =>
    have h1 := bs_step n a b n (Nat.le_refl _)
    have e1 : bs (n + 1) a b (n + 1 + 1) = bs (n + 1) a b (n + 1) + cho (n + 1) (n + 1) * a ^ (n + 1) * b ^ (n + 1 - (n + 1)) := rfl
    have e2 : bs n a b (n + 1) = bs n a b n + cho n n * a ^ n * b ^ (n - n) := rfl
    rw [Int.pow_succ, ih, e1, h1, cho_self, e2, cho_self]
    simp only [Nat.sub_self, Int.pow_zero, Int.pow_succ]; grind
/-- a function that is a polynomial's -/
def IsP (A : Int → Int) : Prop := ∃ l : List Int, ∀ x, A x = ev l x
theorem IsP.ev (l : List Int) : IsP (fun x => ev l x) := ⟨l, fun _ => rfl⟩
theorem IsP.const (c : Int) : IsP (fun _ => c) := ⟨[c], fun x => by simp [Go.Proofs.YtpannkjjggelhaaDoor.ev]⟩
theorem IsP.id : IsP (fun x => x) := ⟨[0, 1], fun x => by simp [Go.Proofs.YtpannkjjggelhaaDoor.ev]⟩
theorem IsP.add {A B : Int → Int} (ha : IsP A) (hb : IsP B) : IsP (fun x => A x + B x) := by
  obtain ⟨a, ha⟩ := ha; obtain ⟨b, hb⟩ := hb
  exact ⟨addTo a b, fun x => by show A x + B x = _; rw [addTo_ev, ha, hb]⟩
theorem IsP.mul {A B : Int → Int} (ha : IsP A) (hb : IsP B) : IsP (fun x => A x * B x) := by
  obtain ⟨a, ha⟩ := ha; obtain ⟨b, hb⟩ := hb
  exact ⟨mulL a b, fun x => by show A x * B x = _; rw [mulL_ev, ha, hb]⟩
theorem IsP.pow {A : Int → Int} (ha : IsP A) (n : Nat) : IsP (fun x => A x ^ n) := by
  induction n with
  | zero => exact ⟨[1], fun x => by simp [Go.Proofs.YtpannkjjggelhaaDoor.ev]⟩
  | succ n ih =>
    obtain ⟨l, hl⟩ := ih.mul ha
    exact ⟨l, fun x => by show A x ^ (n + 1) = _; rw [← hl x, Int.pow_succ]⟩
theorem IsP.neg {A : Int → Int} (ha : IsP A) : IsP (fun x => -A x) := by
  obtain ⟨l, hl⟩ := (IsP.const (-1)).mul ha
  exact ⟨l, fun x => by show -A x = _; rw [← hl x]; show _ = -1 * A x; omega⟩
theorem IsP.zero : IsP (fun _ => 0) := IsP.const 0
/-- two functions differ by a multiple of p -/
def EqM (p : Int) (A B : Int → Int) : Prop := ∃ E, IsP E ∧ ∀ x, A x = B x + p * E x
theorem EqM.of_eq {p : Int} {A B : Int → Int} (h : ∀ x, A x = B x) : EqM p A B := ⟨_, IsP.zero, fun x => by rw [h]; simp⟩
theorem EqM.symm {p : Int} {A B : Int → Int} (h : EqM p A B) : EqM p B A := by
  obtain ⟨E, hE, h⟩ := h
  exact ⟨_, hE.neg, fun x => by rw [h x]; grind⟩
theorem EqM.trans {p : Int} {A B C : Int → Int} (h : EqM p A B) (g : EqM p B C) : EqM p A C := by
  obtain ⟨E, hE, h⟩ := h; obtain ⟨F, hF, g⟩ := g
  exact ⟨_, hE.add hF, fun x => by rw [h x, g x]; grind⟩
theorem EqM.add {p : Int} {A B C D : Int → Int} (h : EqM p A B) (g : EqM p C D) : EqM p (fun x => A x + C x) (fun x => B x + D x) := by
  obtain ⟨E, hE, h⟩ := h; obtain ⟨F, hF, g⟩ := g
  exact ⟨_, hE.add hF, fun x => by simp only [h x, g x]; grind⟩
theorem EqM.mul {p : Int} {A B C D : Int → Int} (h : EqM p A B) (g : EqM p C D) (ha : IsP A) (hd : IsP D) : EqM p (fun x => A x * C x) (fun x => B x * D x) := by
  obtain ⟨E, hE, h⟩ := h; obtain ⟨F, hF, g⟩ := g
  refine ⟨_, (ha.mul hF).add (hE.mul hd), fun x => ?_⟩
  have e1 : A x * C x = A x * D x + p * (A x * F x) := by rw [g x]; grind
  have e2 : A x * D x = B x * D x + p * (E x * D x) := by rw [h x]; grind
  show A x * C x = B x * D x + p * (A x * F x + E x * D x)
  rw [e1, e2]; grind
/-- two functions differ by multiples of p and of g -/
def Md (p : Int) (g : List Int) (A B : Int → Int) : Prop := ∃ H E, IsP H ∧ IsP E ∧ ∀ x, A x = B x + H x * ev g x + p * E x
theorem Md.ofEqM {p : Int} (g : List Int) {A B : Int → Int} (h : EqM p A B) : Md p g A B := by
  obtain ⟨E, hE, h⟩ := h
  exact ⟨_, E, IsP.zero, hE, fun x => by rw [h x]; simp⟩
theorem Md.of_eq {p : Int} {g : List Int} {A B : Int → Int} (h : ∀ x, A x = B x) : Md p g A B := Md.ofEqM g (EqM.of_eq h)
theorem Md.symm {p : Int} {g : List Int} {A B : Int → Int} (h : Md p g A B) : Md p g B A := by
  obtain ⟨H, E, hH, hE, h⟩ := h
  exact ⟨_, _, hH.neg, hE.neg, fun x => by rw [h x]; grind⟩
theorem Md.trans {p : Int} {g : List Int} {A B C : Int → Int} (h : Md p g A B) (k : Md p g B C) : Md p g A C := by
  obtain ⟨H, E, hH, hE, h⟩ := h; obtain ⟨K, F, hK, hF, k⟩ := k
  exact ⟨_, _, hH.add hK, hE.add hF, fun x => by rw [h x, k x]; grind⟩
theorem Md.add {p : Int} {g : List Int} {A B C D : Int → Int} (h : Md p g A B) (k : Md p g C D) : Md p g (fun x => A x + C x) (fun x => B x + D x) := by
  obtain ⟨H, E, hH, hE, h⟩ := h; obtain ⟨K, F, hK, hF, k⟩ := k
  exact ⟨_, _, hH.add hK, hE.add hF, fun x => by simp only [h x, k x]; grind⟩
theorem Md.mul {p : Int} {g : List Int} {A B C D : Int → Int} (h : Md p g A B) (k : Md p g C D) (ha : IsP A) (hd : IsP D) : Md p g (fun x => A x * C x) (fun x => B x * D x) := by
  obtain ⟨H, E, hH, hE, h⟩ := h; obtain ⟨K, F, hK, hF, k⟩ := k
  refine ⟨_, _, (ha.mul hK).add (hH.mul hd), (ha.mul hF).add (hE.mul hd), fun x => ?_⟩
  have e1 : A x * C x = A x * D x + A x * K x * ev g x + p * (A x * F x) := by rw [k x]; grind
  have e2 : A x * D x = B x * D x + H x * D x * ev g x + p * (E x * D x) := by rw [h x]; grind
  show A x * C x = B x * D x + (A x * K x + H x * D x) * ev g x + p * (A x * F x + E x * D x)
  rw [e1, e2]; grind
theorem Md.pow {p : Int} {g : List Int} {A B : Int → Int} (h : Md p g A B) (ha : IsP A) (hb : IsP B) (n : Nat) : Md p g (fun x => A x ^ n) (fun x => B x ^ n) := by
  induction n with
  | zero => exact Md.of_eq fun x => by simp
  | succ n ih =>
    refine Md.trans (Md.of_eq fun x => Int.pow_succ _ _) (Md.trans (ih.mul h (ha.pow n) hb) (Md.of_eq fun x => (Int.pow_succ _ _).symm))
/-- a sum's p-th power is that of both, but for a multiple of p -/
theorem IsPr.frob {p : Int} (h : IsPr p) {A B : Int → Int} (ha : IsP A) (hb : IsP B) : EqM p (fun x => (A x + B x) ^ p.toNat) (fun x => A x ^ p.toNat + B x ^ p.toNat) := by
  have hp := h.two
  obtain ⟨n, hn⟩ : ∃ n, p.toNat = n + 1 := ⟨p.toNat - 1, by omega⟩
  have key : ∀ m, m ≤ n → ∃ E, IsP E ∧ ∀ x, bs p.toNat (A x) (B x) (m + 1) = B x ^ p.toNat + p * E x := by
    intro m
    induction m with
    | zero => intro _; exact ⟨_, IsP.zero, fun x => by rw [bs_one]; simp⟩
    | succ m ih =>
      intro hm
      obtain ⟨E, hE, e⟩ := ih (by omega)
      obtain ⟨c, hc⟩ := h.chop (k := m + 1) (by omega) (by omega)
      refine ⟨_, hE.add (((IsP.const c).mul (ha.pow (m + 1))).mul (hb.pow (p.toNat - (m + 1)))), fun x => ?_⟩
      rw [bs, e x, hc]; grind
  obtain ⟨E, hE, e⟩ := key n (Nat.le_refl _)
  refine ⟨E, hE, fun x => ?_⟩
  show (A x + B x) ^ p.toNat = A x ^ p.toNat + B x ^ p.toNat + p * E x
  have e2 : bs p.toNat (A x) (B x) (p.toNat + 1) = bs p.toNat (A x) (B x) p.toNat + cho p.toNat p.toNat * A x ^ p.toNat * B x ^ (p.toNat - p.toNat) := rfl
  rw [binom, e2, cho_self, Nat.sub_self, Int.pow_zero]
  rw [show bs p.toNat (A x) (B x) p.toNat = bs p.toNat (A x) (B x) (n + 1) by rw [← hn], e x]
  grind
/-- Fermat: a number's p-th power is it, but for a multiple of p -/
theorem IsPr.fermat {p : Int} (h : IsPr p) (c : Nat) : ∃ k, (c : Int) ^ p.toNat = c + p * k := by
  have hp := h.two
  induction c with
  | zero => exact ⟨0, by rw [Int.natCast_zero, Int.zero_pow (by omega)]; simp⟩
  | succ c ih =>
    obtain ⟨k, hk⟩ := ih
    obtain ⟨E, _, e⟩ := h.frob (IsP.const (c : Int)) (IsP.const 1)
    have := e 0
    refine ⟨k + E 0, ?_⟩
    rw [Int.natCast_succ]
    simp only [Int.one_pow] at this
    rw [this, hk]; grind
theorem IsPr.fermat' {p : Int} (h : IsPr p) {c : Int} (h0 : 0 ≤ c) : ∃ k, c ^ p.toNat = c + p * k := by
  obtain ⟨c, rfl⟩ := Int.eq_ofNat_of_zero_le h0
  exact h.fermat c
/-- the reciprocal -/
theorem IsPr.inv {p : Int} (h : IsPr p) {a : Int} (h0 : 0 < a) (h1 : a < p) : ∃ k, a * a ^ (p.toNat - 2) = 1 + p * k := by
  have hp := h.two
  obtain ⟨k, hk⟩ := h.fermat' (c := a) (by omega)
  have e : a ^ p.toNat = a * (a * a ^ (p.toNat - 2)) := by
    rw [show p.toNat = (p.toNat - 2) + 1 + 1 by omega, Int.pow_succ, Int.pow_succ]
    rw [show p.toNat - 2 + 1 + 1 - 2 = p.toNat - 2 by omega]; grind
  have hd : p ∣ a * (a * a ^ (p.toNat - 2) - 1) := ⟨k, by rw [Int.mul_sub, ← e, hk]; omega⟩
  rcases h.dvd_mul hd with h3 | ⟨j, h3⟩
  · exact absurd h3 (h.small h0 h1)
  · exact ⟨j, by omega⟩
/-- 1 has no roots but 1 and -1 -/
theorem IsPr.root {p : Int} (h : IsPr p) {x : Int} (h0 : 0 ≤ x) (h1 : x < p) (hx : x * x % p = 1) : x = 1 ∨ x = p - 1 := by
  have hd : p ∣ (x - 1) * (x + 1) := by
    refine ⟨x * x / p, ?_⟩
    have := Int.mul_ediv_add_emod (x * x) p
    rw [hx] at this; grind
  have hp := h.two
  rcases h.dvd_mul hd with ⟨k, hk⟩ | ⟨k, hk⟩
  · left
    by_cases hz : x = 1
    · exact hz
    · exfalso
      by_cases h2 : x = 0
      · subst h2
        have := Int.le_of_dvd (b := 1) (by omega) ⟨-k, by rw [Int.mul_neg, ← hk]; omega⟩; omega
      · exact h.small (a := x - 1) (by omega) (by omega) ⟨k, hk⟩
  · right
    have := Int.le_of_dvd (a := p) (b := x + 1) (by omega) ⟨k, hk⟩
    omega
theorem can_dig {l : List Int} (h : Can l) (hl : 0 < l.length) : dig l (l.length - 1) ≠ 0 := by
  obtain ⟨r, z, rfl⟩ := snoc_of (zs := l) (by intro e; subst e; simp at hl)
  have := can_snoc.1 h
  simpa [dig] using this
theorem can_of_dig {l : List Int} (h : 0 < l.length → dig l (l.length - 1) ≠ 0) : Can l := by
  by_cases hl : l = []
  · subst hl; exact Can.nil
  · obtain ⟨r, z, rfl⟩ := snoc_of hl
    have := h (by simp)
    exact can_snoc.2 (by simpa [dig] using this)
theorem ev_of_digs : ∀ {a b : List Int}, (∀ k, dig a k = dig b k) → ∀ x, ev a x = ev b x
  | [], [], _, _ => rfl
  | [], b :: br, h, x => by
    have h0 := h 0
    have h1 := ev_of_digs (a := []) (b := br) (fun k => by have := h (k + 1); rw [dig_cons] at this; rw [← this]; rfl) x
    simp only [dig, List.getD_nil, List.getD_cons_zero] at h0
    simp only [ev] at h1 ⊢
    rw [← h1, ← h0]; simp
  | a :: ar, [], h, x => by
    have h0 := h 0
    have h1 := ev_of_digs (a := ar) (b := []) (fun k => by have := h (k + 1); rw [dig_cons] at this; rw [this]; rfl) x
    simp only [dig, List.getD_nil, List.getD_cons_zero] at h0
    simp only [ev] at h1 ⊢
    rw [h1, h0]; simp
  | a :: ar, b :: br, h, x => by
    have h0 := h 0
    have h1 := ev_of_digs (a := ar) (b := br) (fun k => by have := h (k + 1); rw [dig_cons, dig_cons] at this; exact this) x
    simp only [dig, List.getD_cons_zero] at h0
    simp only [ev]
    rw [h1, h0]
theorem digs_of_ev {a b : List Int} (h : ∀ x, ev a x = ev b x) (k : Nat) : dig a k = dig b k := by
  have hz := zero_of_ev (p := addTo a (b.map (-1 * ·))) (N := 0) (fun x _ => by rw [addTo_ev, map_ev, h x]; omega)
  have h1 : dig (addTo a (b.map (-1 * ·))) k = 0 := by
    obtain ⟨L, hL⟩ : ∃ L, addTo a (b.map (-1 * ·)) = L := ⟨_, rfl⟩
    rw [hL] at hz ⊢
    by_cases hk : k < L.length
    · have : dig L k = L[k] := by simp [dig, hk]
      rw [this]; exact hz _ (List.getElem_mem hk)
    · exact dig_past (by omega)
  rw [addTo_dig, map_dig] at h1
  omega
theorem EqM.digs {p : Int} {a b : List Int} (h : EqM p (fun x => ev a x) (fun x => ev b x)) (k : Nat) : ∃ c, dig a k = dig b k + p * c := by
  obtain ⟨E, ⟨e, he⟩, h⟩ := h
  have := digs_of_ev (a := a) (b := addTo b (e.map (p * ·))) (fun x => by
    have h1 : ev a x = ev b x + p * E x := h x
    rw [h1, addTo_ev, map_ev, he x]) k
  rw [addTo_dig, map_dig] at this
  exact ⟨_, this⟩
theorem range_dig (F : Nat → Int) (n k : Nat) (h : k < n) : dig ((List.range n).map F) k = F k := by
  unfold dig
  rw [List.getD_eq_getElem?_getD, List.getElem?_map, List.getElem?_range h]; rfl
theorem EqM.of_digs {p : Int} {a b : List Int} (h : ∀ k, ∃ c, dig a k = dig b k + p * c) : EqM p (fun x => ev a x) (fun x => ev b x) := by
  have hc : ∀ k, ∃ c, dig a k = dig b k + p * c := h
  refine ⟨_, IsP.ev ((List.range (max a.length b.length)).map fun k => Classical.choose (hc k)), fun x => ?_⟩
  show ev a x = ev b x + p * _
  rw [← map_ev, ← addTo_ev]
  refine ev_of_digs (fun k => ?_) x
  rw [addTo_dig, map_dig]
  by_cases hk : k < max a.length b.length
  · rw [range_dig _ _ _ hk]; exact Classical.choose_spec (hc k)
  · rw [dig_past (s := a) (by omega), dig_past (s := b) (by omega), dig_past (by simp; omega)]; simp
/-- a polynomial modulo p: each coefficient below it, the last one not 0 -/
structure Pm (p : Int) (l : List Int) : Prop where
  wd : Wd p l
  can : Can l
theorem Pm.nil (p : Int) : Pm p [] := ⟨Wd.nil p, Can.nil⟩
theorem mod_inj {p a b c : Int} (ha : 0 ≤ a ∧ a < p) (hb : 0 ≤ b ∧ b < p) (h : a = b + p * c) : a = b := by
  have h1 : a % p = a := Int.emod_eq_of_lt ha.1 ha.2
  have h2 : b % p = b := Int.emod_eq_of_lt hb.1 hb.2
  rw [← h1, h, Int.add_mul_emod_self_left, h2]
theorem len_of_digs {a b : List Int} (hb : Can b) (h : ∀ k, dig a k = dig b k) : b.length ≤ a.length := by
  by_cases hl : b.length ≤ a.length
  · exact hl
  · have h1 := can_dig hb (by omega)
    rw [← h, dig_past (by omega)] at h1
    exact absurd rfl h1
theorem Pm.inj {p : Int} {a b : List Int} (hp : 0 < p) (ha : Pm p a) (hb : Pm p b) (h : EqM p (fun x => ev a x) (fun x => ev b x)) : a = b := by
  have hd : ∀ k, dig a k = dig b k := fun k => by
    obtain ⟨c, hc⟩ := h.digs k
    exact mod_inj (ha.wd.dig hp k) (hb.wd.dig hp k) hc
  have h1 := len_of_digs hb.can hd
  have h2 := len_of_digs ha.can fun k => (hd k).symm
  exact dig_ext (by omega) fun t _ => hd t
theorem Pm.lead {p : Int} {g : List Int} (h : Pm p g) (hp : 0 < p) (hl : 0 < g.length) : 0 < dig g (g.length - 1) ∧ dig g (g.length - 1) < p := by
  have h1 := can_dig h.can hl
  have h2 := h.wd.dig hp (g.length - 1)
  omega
theorem ev_snoc (l : List Int) (z x : Int) : ev (l ++ [z]) x = ev l x + z * x ^ l.length := by
  induction l with
  | nil => simp [ev]
  | cons a l ih => simp only [List.cons_append, ev, ih, List.length_cons, Int.pow_succ]; grind
/-- what is left by g is told by what it is modulo g -/
theorem Md.inj {p : Int} {g a b : List Int} (hp : IsPr p) (hg : Pm p g) (ha : Pm p a) (hb : Pm p b) (la : a.length < g.length) (lb : b.length < g.length) (h : Md p g (fun x => ev a x) (fun x => ev b x)) : a = b := by
  have hp2 := hp.two
  have key : ∀ (n : Nat) (hl : List Int), hl.length = n → ∀ E, IsP E → (∀ x, ev a x = ev b x + ev hl x * ev g x + p * E x) → EqM p (fun x => ev a x) (fun x => ev b x) := by
    intro n
    induction n with
    | zero =>
      intro hl hn E hE e
      obtain rfl := List.eq_nil_of_length_eq_zero hn
      exact ⟨E, hE, fun x => by show ev a x = ev b x + p * E x; rw [e x]; simp [ev]⟩
    | succ n ih =>
      intro hl hn E hE e
      obtain ⟨h0, z, rfl⟩ := snoc_of (zs := hl) (by intro h; subst h; simp at hn)
      have hn0 : h0.length = n := by simpa using hn
      obtain ⟨el, he⟩ := hE
      have hd := digs_of_ev (a := a) (b := addTo (addTo b (mulL (h0 ++ [z]) g)) (el.map (p * ·))) (fun x => by rw [e x, addTo_ev, addTo_ev, mulL_ev, map_ev, he x]) ((h0 ++ [z]).length + g.length - 2)
      have hlen : (h0 ++ [z]).length = n + 1 := hn
      rw [addTo_dig, addTo_dig, map_dig, mulL_lead _ _ (by omega) (by omega), dig_past (s := a) (by omega), dig_past (s := b) (by omega)] at hd
      have hz : dig (h0 ++ [z]) ((h0 ++ [z]).length - 1) = z := by simp [dig]
      rw [hz] at hd
      have hl := hg.lead (by omega) (by omega)
      have hdv : p ∣ z * dig g (g.length - 1) := ⟨-(dig el ((h0 ++ [z]).length + g.length - 2)), by rw [Int.mul_neg]; omega⟩
      rcases hp.dvd_mul hdv with ⟨y, hy⟩ | h3
      · subst hy
        refine ih h0 hn0 _ ((IsP.ev el).add (((IsP.const y).mul (IsP.id.pow n)).mul (IsP.ev g))) fun x => ?_
        show ev a x = ev b x + ev h0 x * ev g x + p * (ev el x + y * x ^ n * ev g x)
        rw [e x, ev_snoc, hn0, he x]; grind
      · exact absurd h3 (hp.small hl.1 hl.2)
  obtain ⟨H, E, ⟨hl, hH⟩, hE, h⟩ := h
  exact Pm.inj (by omega) ha hb (key _ hl rfl E hE fun x => by rw [← hH x]; exact h x)
/-- each coefficient modulo p -/
def rmL (p : Int) (l : List Int) : List Int := l.map (· % p)
theorem rmL_len (p : Int) (l : List Int) : (rmL p l).length = l.length := by simp [rmL]
theorem rmL_dig (p : Int) (l : List Int) (k : Nat) : dig (rmL p l) k = dig l k % p := by
  unfold dig rmL
  rw [List.getD_eq_getElem?_getD, List.getD_eq_getElem?_getD, List.getElem?_map]
  cases l[k]? <;> simp
theorem rmL_wd {p : Int} (hp : 0 < p) (l : List Int) : Wd p (rmL p l) := fun z hz => by
  simp only [rmL, List.mem_map] at hz
  obtain ⟨y, _, rfl⟩ := hz
  exact ⟨Int.emod_nonneg _ (by omega), Int.emod_lt_of_pos _ hp⟩
theorem emod_eq (a p : Int) : a % p = a + p * (-(a / p)) := by
  have := Int.mul_ediv_add_emod a p
  rw [Int.mul_neg]; omega
theorem rmL_eqm (p : Int) (l : List Int) : EqM p (fun x => ev (rmL p l) x) (fun x => ev l x) :=
  EqM.of_digs fun k => ⟨_, by rw [rmL_dig]; exact emod_eq _ _⟩
/-- the product modulo p -/
theorem mulM_pm {p : Int} {f g : List Int} (hp : IsPr p) (hf : Pm p f) (hg : Pm p g) (lf : 0 < f.length) (lg : 0 < g.length) : Pm p (rmL p (mulL f g)) := by
  have hp2 := hp.two
  refine ⟨rmL_wd (by omega) _, can_of_dig fun _ => ?_⟩
  rw [rmL_len, rmL_dig, mulL_len _ _ lg, show f.length + g.length - 1 - 1 = f.length + g.length - 2 by omega, mulL_lead _ _ lf lg]
  have h1 := hf.lead (by omega) lf
  have h2 := hg.lead (by omega) lg
  intro e
  rcases hp.dvd_mul (Int.dvd_of_emod_eq_zero e) with h | h
  · exact hp.small h1.1 h1.2 h
  · exact hp.small h2.1 h2.2 h
theorem mulM_eqm (p : Int) (f g : List Int) : EqM p (fun x => ev (rmL p (mulL f g)) x) (fun x => ev f x * ev g x) :=
  (rmL_eqm p _).trans (EqM.of_eq fun x => mulL_ev f g x)
/-- the first i parts of what stands at x^k in f g -/
def cs (f g : List Int) (k : Nat) : Nat → Int
  | 0 => 0
  | i + 1 => cs f g k i + dig f i * dig g (k - i)
theorem cs_shift (a : Int) (f g : List Int) (k i : Nat) : cs (a :: f) g (k + 1) (i + 1) = a * dig g (k + 1) + cs f g k i := by
  induction i with
  | zero => simp [cs, dig]
  | succ i ih => rw [cs, ih, cs, dig_cons, show k + 1 - (i + 1) = k - i by omega]; omega
theorem cs_none (g : List Int) (k i : Nat) : cs [] g k i = 0 := by
  induction i with
  | zero => rfl
  | succ i ih => rw [cs, ih]; simp [dig]
theorem cs_mulL (f g : List Int) (k : Nat) : dig (mulL f g) k = cs f g k (k + 1) := by
  induction f generalizing k with
  | nil => rw [cs_none, mulL, rep_dig]
  | cons a f ih =>
    rw [mulL, addTo_dig, map_dig]
    cases k with
    | zero => simp [cs, dig]
    | succ k => rw [cs_shift, dig_cons, ih]
theorem cs_zero {f g : List Int} {k : Nat} : ∀ {i : Nat}, (∀ j, j < i → dig f j * dig g (k - j) = 0) → cs f g k i = 0
  | 0, _ => rfl
  | i + 1, h => by rw [cs, cs_zero fun j hj => h j (by omega), h i (by omega)]; rfl
theorem cs_low {f g : List Int} {k i : Nat} (h : i = 0 ∨ g.length + i ≤ k + 1) : cs f g k i = 0 :=
  cs_zero fun j hj => by rw [dig_past (s := g) (by omega)]; simp
theorem cs_high {f g : List Int} {k i m : Nat} (h : i ≤ m) (hf : f.length ≤ i) : cs f g k m = cs f g k i := by
  induction m with
  | zero => have : i = 0 := by omega
            subst this; rfl
  | succ m ih =>
    by_cases e : i = m + 1
    · subst e; rfl
    · rw [cs, ih (by omega), dig_past (s := f) (by omega)]; simp
theorem cs_end {f g : List Int} {k i : Nat} (h : i = k + 1 ∨ (i ≤ k + 1 ∧ f.length ≤ i)) : cs f g k i = dig (mulL f g) k := by
  rw [cs_mulL]
  rcases h with rfl | ⟨h1, h2⟩
  · rfl
  · exact (cs_high h1 h2).symm
theorem cs_bound {p : Int} {f g : List Int} (hp : 0 < p) (hp2 : p ≤ 2147483648) (hf : Wd p f) (hg : Wd p g) (k i : Nat) : 0 ≤ cs f g k i ∧ cs f g k i ≤ i * 4611686018427387904 := by
  induction i with
  | zero => simp [cs]
  | succ i ih =>
    have h1 := hf.dig hp i
    have h2 := hg.dig hp (k - i)
    have h3 := Int.mul_nonneg h1.1 h2.1
    have h4 : dig f i * dig g (k - i) ≤ 2147483648 * 2147483648 := Int.mul_le_mul (by omega) (by omega) h2.1 (by decide)
    rw [cs]
    constructor
    · omega
    · rw [Int.natCast_succ]; omega
theorem cs_set {Q g : List Int} {K k : Nat} {v : Int} (hk : k < Q.length) (i : Nat) : cs (Q.set k v) g K i = cs Q g K i + if k < i then (v - dig Q k) * dig g (K - k) else 0 := by
  induction i with
  | zero => simp [cs]
  | succ i ih =>
    rw [cs, cs, ih, dig_set _ hk]
    by_cases e : i = k
    · subst e; rw [if_pos rfl, if_neg (by omega), if_pos (by omega)]; grind
    · rw [if_neg e]
      by_cases e2 : k < i
      · rw [if_pos e2, if_pos (by omega)]; omega
      · rw [if_neg e2, if_neg (by omega)]; omega
/-- a quotient by g on its way: the places from k on are found -/
structure QSt (p : Int) (f g Q : List Int) (k : Nat) : Prop where
  len : Q.length = f.length - (g.length - 1)
  wd : Wd p Q
  low : ∀ j, j < k → dig Q j = 0
  eq : ∀ j, k ≤ j → j < Q.length → ∃ c, dig f (j + (g.length - 1)) = cs Q g (j + (g.length - 1)) (j + (g.length - 1) + 1) + p * c
theorem QSt.start {p : Int} (hp : 0 < p) (f g : List Int) : QSt p f g (List.replicate (f.length - (g.length - 1)) 0) (f.length - (g.length - 1)) :=
  ⟨by simp, fun z hz => by rw [(List.mem_replicate.1 hz).2]; exact ⟨Int.le_refl _, hp⟩, fun j _ => rep_dig _ _, fun j h1 h2 => by simp at h2; omega⟩
theorem QSt.step {p : Int} {f g Q : List Int} {k : Nat} (h : QSt p f g Q (k + 1)) (hk : k < Q.length) (hg : 0 < g.length) {v c y z : Int} (hv : 0 ≤ v ∧ v < p)
    (hc : c * dig g (g.length - 1) = 1 + p * y) (he : v = (dig f (k + (g.length - 1)) - cs Q g (k + (g.length - 1)) (k + (g.length - 1) + 1)) * c + p * z) : QSt p f g (Q.set k v) k := by
  refine ⟨by simp [h.len], h.wd.set _ hv, fun j hj => ?_, fun j h1 h2 => ?_⟩
  · rw [dig_set _ hk, if_neg (by omega)]; exact h.low j (by omega)
  · rw [List.length_set] at h2
    rw [cs_set hk, if_pos (by omega), h.low k (by omega)]
    by_cases e : j = k
    · subst e
      rw [show j + (g.length - 1) - j = g.length - 1 by omega]
      obtain ⟨F, hF⟩ : ∃ F, dig f (j + (g.length - 1)) = F := ⟨_, rfl⟩
      obtain ⟨S, hS⟩ : ∃ S, cs Q g (j + (g.length - 1)) (j + (g.length - 1) + 1) = S := ⟨_, rfl⟩
      obtain ⟨G, hG⟩ : ∃ G, dig g (g.length - 1) = G := ⟨_, rfl⟩
      rw [hF, hS] at he ⊢
      rw [hG] at hc ⊢
      refine ⟨-((F - S) * y) - z * G, ?_⟩
      have e1 : (v - 0) * G = (F - S) * (c * G) + p * (z * G) := by rw [he]; grind
      rw [e1, hc]; grind
    · obtain ⟨c', hc'⟩ := h.eq j (by omega) h2
      refine ⟨c', ?_⟩
      rw [dig_past (s := g) (k := j + (g.length - 1) - k) (by omega), hc']; simp
/-- the quotient and what is left of each place below -/
theorem QSt.done {p : Int} {f g Q R : List Int} (h : QSt p f g Q 0) (hg : 0 < g.length) (hR : R.length = min f.length (g.length - 1)) (hr : ∀ k, k < R.length → dig R k = (dig f k - cs Q g k (k + 1)) % p) :
    EqM p (fun x => ev f x) (fun x => ev Q x * ev g x + ev R x) := by
  have hq := h.len
  have h1 : EqM p (fun x => ev f x) (fun x => ev (addTo (mulL Q g) R) x) := EqM.of_digs fun k => by
    rw [addTo_dig, cs_mulL]
    by_cases h1 : k < R.length
    · rw [hr k h1, emod_eq]
      exact ⟨(dig f k - cs Q g k (k + 1)) / p, by rw [Int.mul_neg]; omega⟩
    · rw [dig_past (s := R) (by omega)]
      by_cases h2 : k < f.length
      · obtain ⟨c, hc⟩ := h.eq (k - (g.length - 1)) (Nat.zero_le _) (by omega)
        rw [show k - (g.length - 1) + (g.length - 1) = k by omega] at hc
        exact ⟨c, by rw [hc]; omega⟩
      · refine ⟨0, ?_⟩
        rw [dig_past (s := f) (by omega), cs_zero fun j hj => ?_]
        · simp
        · by_cases h3 : j < Q.length
          · rw [dig_past (s := g) (k := k - j) (by omega)]; simp
          · rw [dig_past (s := Q) (by omega)]; simp
  exact h1.trans (EqM.of_eq fun x => by rw [addTo_ev, mulL_ev])
/-- a row cut behind its last coefficient -/
theorem take_eqm (p : Int) {l : List Int} {n : Nat} (h : ∀ t, n ≤ t → dig l t = 0) : EqM p (fun x => ev (l.take n) x) (fun x => ev l x) :=
  EqM.of_digs fun k => ⟨0, by
    by_cases hk : k < n
    · rw [dig_take hk]; simp
    · rw [h k (by omega), dig_past (by simp; omega)]; simp⟩
end Go.Proofs.YtpannkjjggelhaaDoor
