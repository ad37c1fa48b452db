/-
  Plain mathematics: numbers by their digits to a base. Nothing of the program is named here.
-/
namespace Go.Proofs.YtnodcfeimiimbaaDoor
set_option linter.unusedVariables false
set_option linter.unusedSimpArgs false

/-- the number whose digits to the base q are zs, the lowest first -/
def val (q : Int) : List Int → Int
  | [] => 0
  | z :: r => z + q * val q r

def Wd (q : Int) (zs : List Int) : Prop := ∀ z ∈ zs, 0 ≤ z ∧ z < q
/-- no digit 0 on top -/
def Can (zs : List Int) : Prop := zs.getLast? ≠ some 0

theorem val_nil (q : Int) : val q [] = 0 := rfl
theorem val_cons (q z : Int) (r : List Int) : val q (z :: r) = z + q * val q r := rfl
theorem val_append (q : Int) (a b : List Int) : val q (a ++ b) = val q a + q ^ a.length * val q b := by
  induction a with
  | nil => simp [val]
  | cons z r ih => simp only [List.cons_append, val, ih, List.length_cons, Int.pow_succ]; grind
theorem Wd.nil (q : Int) : Wd q [] := fun _ h => by cases h
theorem Wd.tail {q z : Int} {r : List Int} (h : Wd q (z :: r)) : Wd q r := fun x hx => h x (List.mem_cons_of_mem _ hx)
theorem Wd.head {q z : Int} {r : List Int} (h : Wd q (z :: r)) : 0 ≤ z ∧ z < q := h z List.mem_cons_self
theorem Wd.cons {q z : Int} {r : List Int} (h : 0 ≤ z ∧ z < q) (hr : Wd q r) : Wd q (z :: r) := fun x hx => by
  rcases List.mem_cons.1 hx with e | e
  · exact e ▸ h
  · exact hr x e
theorem Wd.append {q : Int} {a b : List Int} (ha : Wd q a) (hb : Wd q b) : Wd q (a ++ b) := fun x hx => by
  rcases List.mem_append.1 hx with e | e
  · exact ha x e
  · exact hb x e
theorem Wd.one {q z : Int} (h : 0 ≤ z ∧ z < q) : Wd q [z] := Wd.cons h (Wd.nil q)
theorem Wd.take {q : Int} {a : List Int} (h : Wd q a) (n : Nat) : Wd q (a.take n) := fun x hx => h x (List.mem_of_mem_take hx)
theorem Wd.drop {q : Int} {a : List Int} (h : Wd q a) (n : Nat) : Wd q (a.drop n) := fun x hx => h x (List.mem_of_mem_drop hx)
theorem Wd.getD {q : Int} {a : List Int} (h : Wd q a) (hq : 0 < q) (t : Nat) : 0 ≤ a.getD t 0 ∧ a.getD t 0 < q := by
  by_cases ht : t < a.length
  · have : a.getD t 0 = a[t] := by simp [List.getD, ht]
    rw [this]; exact h _ (List.getElem_mem ht)
  · have : a.getD t 0 = 0 := by simp [List.getD, List.getElem?_eq_none (Nat.le_of_not_lt ht)]
    rw [this]; exact ⟨Int.le_refl _, hq⟩
theorem val_nonneg {q : Int} (hq : 0 < q) {zs : List Int} (h : Wd q zs) : 0 ≤ val q zs := by
  induction zs with
  | nil => exact Int.le_refl _
  | cons z r ih =>
    have h1 := ih h.tail; have h2 := h.head
    have := Int.mul_nonneg (Int.le_of_lt hq) h1
    simp only [val]; omega
theorem pow_pos' {q : Int} (hq : 0 < q) (n : Nat) : 0 < q ^ n := Int.pow_pos hq
theorem pow_mono' {q : Int} (hq : 0 < q) {n m : Nat} (h : n ≤ m) : q ^ n ≤ q ^ m := by
  obtain ⟨d, rfl⟩ : ∃ d, m = n + d := ⟨m - n, by omega⟩
  rw [Int.pow_add]
  have h1 := pow_pos' hq n; have h2 := pow_pos' hq d
  have : q ^ n * 1 ≤ q ^ n * q ^ d := Int.mul_le_mul_of_nonneg_left (by omega) (by omega)
  omega
theorem val_lt {q : Int} (hq : 0 < q) {zs : List Int} (h : Wd q zs) : val q zs < q ^ zs.length := by
  induction zs with
  | nil => simp [val]
  | cons z r ih =>
    have h1 := ih h.tail; have h2 := h.head
    have h3 : q * (val q r + 1) ≤ q * q ^ r.length := Int.mul_le_mul_of_nonneg_left (by omega) (Int.le_of_lt hq)
    simp only [val, List.length_cons, Int.pow_succ]
    have : q * (val q r + 1) = q * val q r + q := by grind
    have e : q ^ r.length * q = q * q ^ r.length := Int.mul_comm _ _
    omega
theorem take_getD {zs : List Int} {k : Nat} (h : k < zs.length) : zs.take (k + 1) = zs.take k ++ [zs.getD k 0] := by
  rw [List.take_succ_eq_append_getElem h]; simp [List.getD, h]
theorem val_take_succ (q : Int) {zs : List Int} {k : Nat} (h : k < zs.length) : val q (zs.take (k + 1)) = val q (zs.take k) + q ^ k * zs.getD k 0 := by
  rw [take_getD h, val_append]
  simp only [val, List.length_take, Nat.min_eq_left (Nat.le_of_lt h)]; grind
theorem val_snoc (q : Int) (zs : List Int) (z : Int) : val q (zs ++ [z]) = val q zs + q ^ zs.length * z := by
  rw [val_append]; simp only [val]; grind
theorem Can.nil : Can [] := by simp [Can]
theorem can_snoc {zs : List Int} {z : Int} : Can (zs ++ [z]) ↔ z ≠ 0 := by simp [Can]
theorem snoc_of {zs : List Int} (h : zs ≠ []) : ∃ r z, zs = r ++ [z] := ⟨zs.dropLast, zs.getLast h, (List.dropLast_concat_getLast h).symm⟩
/-- a number with digits is not below the power of its top place -/
theorem val_ge {q : Int} (hq : 0 < q) {zs : List Int} (h : Wd q zs) (hc : Can zs) (hn : zs ≠ []) : q ^ (zs.length - 1) ≤ val q zs := by
  obtain ⟨r, z, rfl⟩ := snoc_of hn
  have hz : z ≠ 0 := can_snoc.1 hc
  have hz' : 0 ≤ z ∧ z < q := h z (by simp)
  have hr : Wd q r := fun x hx => h x (by simp [hx])
  have h0 := val_nonneg hq hr
  rw [val_snoc]
  have : q ^ r.length * 1 ≤ q ^ r.length * z := Int.mul_le_mul_of_nonneg_left (by omega) (Int.le_of_lt (pow_pos' hq _))
  simp only [List.length_append, List.length_cons, List.length_nil]
  have e : r.length + (0 + 1) - 1 = r.length := by omega
  rw [e]; omega
theorem val_pos {q : Int} (hq : 0 < q) {zs : List Int} (h : Wd q zs) (hc : Can zs) (hn : zs ≠ []) : 0 < val q zs :=
  Int.lt_of_lt_of_le (pow_pos' hq _) (val_ge hq h hc hn)
theorem can_tail {z : Int} {r : List Int} (h : Can (z :: r)) (hr : r ≠ []) : Can r := by
  cases r with
  | nil => exact absurd rfl hr
  | cons y s => simpa [Can] using h
theorem can_tail' {z : Int} {r : List Int} (h : Can (z :: r)) : Can r := by
  cases r with
  | nil => exact Can.nil
  | cons y s => simpa [Can] using h
/-- a number has one row of digits -/
theorem val_inj {q : Int} (hq : 0 < q) : ∀ {a b : List Int}, Wd q a → Wd q b → Can a → Can b → val q a = val q b → a = b
  | [], [], _, _, _, _, _ => rfl
  | [], y :: s, _, hb, _, cb, e => by have := val_pos hq hb cb (by simp); simp only [val_nil] at e; omega
  | z :: r, [], ha, _, ca, _, e => by have := val_pos hq ha ca (by simp); simp only [val_nil] at e; omega
  | z :: r, y :: s, ha, hb, ca, cb, e => by
    simp only [val] at e
    have h1 := ha.head; have h2 := hb.head
    have e1 : z = y := by
      have a1 : (z + q * val q r) % q = z := by rw [Int.add_mul_emod_self_left]; exact Int.emod_eq_of_lt h1.1 h1.2
      have a2 : (y + q * val q s) % q = y := by rw [Int.add_mul_emod_self_left]; exact Int.emod_eq_of_lt h2.1 h2.2
      rw [← a1, ← a2, e]
    have e2 : val q r = val q s := by
      have : q * val q r = q * val q s := by omega
      exact Int.eq_of_mul_eq_mul_left (by omega) this
    rw [e1, val_inj hq ha.tail hb.tail (can_tail' ca) (can_tail' cb) e2]

/-- the digits of a number -/
def digs (q : Nat) : Nat → Nat → List Int
  | 0, _ => []
  | f + 1, n => if n = 0 then [] else ((n % q : Nat) : Int) :: digs q f (n / q)
def limbs (q : Nat) (n : Nat) : List Int := digs q n n

theorem digs_spec {q : Nat} (hq : 2 ≤ q) : ∀ f n, n ≤ f → Wd q (digs q f n) ∧ Can (digs q f n) ∧ val q (digs q f n) = n := by
  intro f
  induction f with
  | zero => intro n hn; have : n = 0 := by omega
            subst this; exact ⟨Wd.nil _, Can.nil, rfl⟩
  | succ f ih =>
    intro n hn
    by_cases h0 : n = 0
    · subst h0; simp only [digs, if_pos]; exact ⟨Wd.nil _, Can.nil, rfl⟩
    have hdiv : n / q < n := Nat.div_lt_self (by omega) hq
    obtain ⟨h1, h2, h3⟩ := ih (n / q) (by omega)
    have hm : n % q < q := Nat.mod_lt _ (by omega)
    simp only [digs, if_neg h0]
    refine ⟨Wd.cons ⟨by omega, by omega⟩ h1, ?_, ?_⟩
    · by_cases hd : digs q f (n / q) = []
      · rw [hd]
        have : n / q = 0 := by rw [hd] at h3; simp only [val_nil] at h3; omega
        have hlt : n < q := by
          rcases Nat.div_eq_zero_iff.1 this with h | h
          · omega
          · exact h
        rw [Nat.mod_eq_of_lt hlt]
        simp [Can]; omega
      · obtain ⟨r, z, e⟩ := snoc_of hd
        rw [e] at h2 ⊢
        have := can_snoc.1 h2
        rw [← List.cons_append]; exact can_snoc.2 this
    · rw [val_cons, h3]
      have := Nat.mod_add_div n q
      have e : ((n % q + q * (n / q) : Nat) : Int) = (n : Int) := by rw [this]
      simpa using e
theorem limbs_wd {q : Nat} (hq : 2 ≤ q) (n : Nat) : Wd q (limbs q n) := (digs_spec hq n n (Nat.le_refl _)).1
theorem limbs_can {q : Nat} (hq : 2 ≤ q) (n : Nat) : Can (limbs q n) := (digs_spec hq n n (Nat.le_refl _)).2.1
theorem limbs_val {q : Nat} (hq : 2 ≤ q) (n : Nat) : val q (limbs q n) = n := (digs_spec hq n n (Nat.le_refl _)).2.2
theorem limbs_of {q : Nat} (hq : 2 ≤ q) {zs : List Int} {n : Nat} (h : Wd q zs) (hc : Can zs) (hv : val q zs = n) : limbs q n = zs :=
  val_inj (q := q) (by omega) (limbs_wd hq n) h (limbs_can hq n) hc (by rw [limbs_val hq, hv])
theorem limbs_zero (q : Nat) : limbs q 0 = [] := rfl
theorem limbs_eq_nil {q : Nat} (hq : 2 ≤ q) {n : Nat} : limbs q n = [] ↔ n = 0 := by
  constructor
  · intro h; have := limbs_val hq n; rw [h] at this; simp only [val_nil] at this; omega
  · intro h; subst h; rfl
theorem limbs_inj {q : Nat} (hq : 2 ≤ q) {n m : Nat} (h : limbs q n = limbs q m) : n = m := by
  have h1 := limbs_val hq n; have h2 := limbs_val hq m; rw [h] at h1; rw [h1] at h2; omega

/-- the lower row is the shorter one, or the one that is lower at the highest place where they part -/
theorem val_lt_of_len {q : Int} (hq : 1 < q) {a b : List Int} (ha : Wd q a) (hb : Wd q b) (cb : Can b) (h : a.length < b.length) : val q a < val q b := by
  have h1 := val_lt (by omega) ha
  have hn : b ≠ [] := by intro e; subst e; simp at h
  have h2 := val_ge (by omega) hb cb hn
  have h3 : q ^ a.length ≤ q ^ (b.length - 1) := pow_mono' (by omega) (by omega)
  omega
theorem val_take_drop (q : Int) (zs : List Int) (k : Nat) (h : k ≤ zs.length) : val q zs = val q (zs.take k) + q ^ k * val q (zs.drop k) := by
  have e := val_append q (zs.take k) (zs.drop k)
  rw [List.take_append_drop, List.length_take, Nat.min_eq_left h] at e
  exact e
/-- two rows of one length that agree above place k, the first one lower at k -/
theorem val_lt_at {q : Int} (hq : 1 < q) {a b : List Int} (ha : Wd q a) (hb : Wd q b) (hl : a.length = b.length) {k : Nat} (hk : k < a.length) (hd : a.drop (k + 1) = b.drop (k + 1)) (hlt : a.getD k 0 < b.getD k 0) : val q a < val q b := by
  have e1 := val_take_drop q a (k + 1) (by omega)
  have e2 := val_take_drop q b (k + 1) (by omega)
  rw [val_take_succ q hk] at e1
  rw [val_take_succ q (hl ▸ hk)] at e2
  have h1 := val_lt (by omega) (ha.take k)
  have h2 := val_nonneg (by omega) (hb.take k)
  rw [List.length_take, Nat.min_eq_left (by omega)] at h1
  have h3 : q ^ k * (a.getD k 0 + 1) ≤ q ^ k * b.getD k 0 := Int.mul_le_mul_of_nonneg_left (by omega) (Int.le_of_lt (pow_pos' (by omega) _))
  have h4 : q ^ k * (a.getD k 0 + 1) = q ^ k * a.getD k 0 + q ^ k := by grind
  rw [hd] at e1
  omega

end Go.Proofs.YtnodcfeimiimbaaDoor
