/-
  Num, Core, W2, W3, Blk, Facts, W4, Bits, Add.
-/
import Derived.WalkKit
import Derived.WalkSpells
import Derived.WalkLawsBesides
import Derived.Deep.QuietTactic
import Derived.BigQuiet
import Derived.Test.YtnniipekcbjloaaDoorRows
import Derived.Laws.CopyOwn
import Derived.Shelf.Spec.BitsCarry
/- Plain mathematics: numbers by their digits to a base. Nothing of the program is named here. -/
namespace Go.Proofs.YtnniipekcbjloaaDoor
set_option linter.unusedVariables false
set_option linter.unusedSimpArgs false
/-- the number whose digits to the base q are zs, the lowest first -/
def val (q : Int) : List Int → Int
  | [] => 0
  | z :: r => z + q * val q r
def Wd (q : Int) (zs : List Int) : Prop := ∀ z ∈ zs, 0 ≤ z ∧ z < q
/-- no digit 0 on top -/
def Can (zs : List Int) : Prop := zs.getLast? ≠ some 0
theorem val_nil (q : Int) : val q [] = 0 := rfl
theorem val_cons (q z : Int) (r : List Int) : val q (z :: r) = z + q * val q r := rfl
theorem val_append (q : Int) (a b : List Int) : val q (a ++ b) = val q a + q ^ a.length * val q b := by
  induction a with
  | nil => simp [val]
  | cons z r ih => simp only [List.cons_append, val, ih, List.length_cons, Int.pow_succ]; grind
theorem Wd.nil (q : Int) : Wd q [] := fun _ h => by cases h
theorem Wd.tail {q z : Int} {r : List Int} (h : Wd q (z :: r)) : Wd q r := fun x hx => h x (List.mem_cons_of_mem _ hx)
theorem Wd.head {q z : Int} {r : List Int} (h : Wd q (z :: r)) : 0 ≤ z ∧ z < q := h z List.mem_cons_self
theorem Wd.cons {q z : Int} {r : List Int} (h : 0 ≤ z ∧ z < q) (hr : Wd q r) : Wd q (z :: r) := fun x hx => by
  rcases List.mem_cons.1 hx with e | e
  · exact e ▸ h
  · exact hr x e
theorem Wd.append {q : Int} {a b : List Int} (ha : Wd q a) (hb : Wd q b) : Wd q (a ++ b) := fun x hx => by
  rcases List.mem_append.1 hx with e | e
  · exact ha x e
  · exact hb x e
theorem Wd.one {q z : Int} (h : 0 ≤ z ∧ z < q) : Wd q [z] := Wd.cons h (Wd.nil q)
theorem Wd.take {q : Int} {a : List Int} (h : Wd q a) (n : Nat) : Wd q (a.take n) := fun x hx => h x (List.mem_of_mem_take hx)
theorem Wd.drop {q : Int} {a : List Int} (h : Wd q a) (n : Nat) : Wd q (a.drop n) := fun x hx => h x (List.mem_of_mem_drop hx)
theorem Wd.getD {q : Int} {a : List Int} (h : Wd q a) (hq : 0 < q) (t : Nat) : 0 ≤ a.getD t 0 ∧ a.getD t 0 < q := by
  by_cases ht : t < a.length
  · have : a.getD t 0 = a[t] := by simp [List.getD, ht]
    rw [this]; exact h _ (List.getElem_mem ht)
  · have : a.getD t 0 = 0 := by simp [List.getD, List.getElem?_eq_none (Nat.le_of_not_lt ht)]
    rw [this]; exact ⟨Int.le_refl _, hq⟩
theorem val_nonneg {q : Int} (hq : 0 < q) {zs : List Int} (h : Wd q zs) : 0 ≤ val q zs := by
  induction zs with
  | nil => exact Int.le_refl _
  | cons z r ih =>
    have h1 := ih h.tail; have h2 := h.head
    have := Int.mul_nonneg (Int.le_of_lt hq) h1
    simp only [val]; omega
theorem pow_pos' {q : Int} (hq : 0 < q) (n : Nat) : 0 < q ^ n := Int.pow_pos hq
theorem pow_mono' {q : Int} (hq : 0 < q) {n m : Nat} (h : n ≤ m) : q ^ n ≤ q ^ m := by
  obtain ⟨d, rfl⟩ : ∃ d, m = n + d := ⟨m - n, by omega⟩
  rw [Int.pow_add]
  have h1 := pow_pos' hq n; have h2 := pow_pos' hq d
  have : q ^ n * 1 ≤ q ^ n * q ^ d := Int.mul_le_mul_of_nonneg_left (by omega) (by omega)
  omega
theorem val_lt {q : Int} (hq : 0 < q) {zs : List Int} (h : Wd q zs) : val q zs < q ^ zs.length := by
  induction zs with
  | nil => simp [val]
  | cons z r ih =>
    have h1 := ih h.tail; have h2 := h.head
    have h3 : q * (val q r + 1) ≤ q * q ^ r.length := Int.mul_le_mul_of_nonneg_left (by omega) (Int.le_of_lt hq)
    simp only [val, List.length_cons, Int.pow_succ]
    have : q * (val q r + 1) = q * val q r + q := by grind
    have e : q ^ r.length * q = q * q ^ r.length := Int.mul_comm _ _
    omega
theorem take_getD {zs : List Int} {k : Nat} (h : k < zs.length) : zs.take (k + 1) = zs.take k ++ [zs.getD k 0] := by
  rw [List.take_succ_eq_append_getElem h]; simp [List.getD, h]
theorem val_take_succ (q : Int) {zs : List Int} {k : Nat} (h : k < zs.length) : val q (zs.take (k + 1)) = val q (zs.take k) + q ^ k * zs.getD k 0 := by
  rw [take_getD h, val_append]
  simp only [val, List.length_take, Nat.min_eq_left (Nat.le_of_lt h)]; grind
theorem val_snoc (q : Int) (zs : List Int) (z : Int) : val q (zs ++ [z]) = val q zs + q ^ zs.length * z := by
  rw [val_append]; simp only [val]; grind
theorem Can.nil : Can [] := by simp [Can]
theorem can_snoc {zs : List Int} {z : Int} : Can (zs ++ [z]) ↔ z ≠ 0 := by simp [Can]
theorem snoc_of {zs : List Int} (h : zs ≠ []) : ∃ r z, zs = r ++ [z] := ⟨zs.dropLast, zs.getLast h, (List.dropLast_concat_getLast h).symm⟩
/-- a number with digits is not below the power of its top place -/
theorem val_ge {q : Int} (hq : 0 < q) {zs : List Int} (h : Wd q zs) (hc : Can zs) (hn : zs ≠ []) : q ^ (zs.length - 1) ≤ val q zs := by
  obtain ⟨r, z, rfl⟩ := snoc_of hn
  have hz : z ≠ 0 := can_snoc.1 hc
  have hz' : 0 ≤ z ∧ z < q := h z (by simp)
  have hr : Wd q r := fun x hx => h x (by simp [hx])
  have h0 := val_nonneg hq hr
  rw [val_snoc]
  have : q ^ r.length * 1 ≤ q ^ r.length * z := Int.mul_le_mul_of_nonneg_left (by omega) (Int.le_of_lt (pow_pos' hq _))
  simp only [List.length_append, List.length_cons, List.length_nil]
  have e : r.length + (0 + 1) - 1 = r.length := by omega
  rw [e]; omega
theorem val_pos {q : Int} (hq : 0 < q) {zs : List Int} (h : Wd q zs) (hc : Can zs) (hn : zs ≠ []) : 0 < val q zs :=
  Int.lt_of_lt_of_le (pow_pos' hq _) (val_ge hq h hc hn)
theorem can_tail' {z : Int} {r : List Int} (h : Can (z :: r)) : Can r := by
  cases r with
  | nil => exact Can.nil
  | cons y s => simpa [Can] using h
/-- a number has one row of digits -/
theorem val_inj {q : Int} (hq : 0 < q) : ∀ {a b : List Int}, Wd q a → Wd q b → Can a → Can b → val q a = val q b → a = b
  | [], [], _, _, _, _, _ => rfl
  | [], y :: s, _, hb, _, cb, e => by have := val_pos hq hb cb (by simp); simp only [val_nil] at e; omega
  | z :: r, [], ha, _, ca, _, e => by have := val_pos hq ha ca (by simp); simp only [val_nil] at e; omega
  | z :: r, y :: s, ha, hb, ca, cb, e => by
    simp only [val] at e
    have h1 := ha.head; have h2 := hb.head
    have e1 : z = y := by
      have a1 : (z + q * val q r) % q = z := by rw [Int.add_mul_emod_self_left]; exact Int.emod_eq_of_lt h1.1 h1.2
      have a2 : (y + q * val q s) % q = y := by rw [Int.add_mul_emod_self_left]; exact Int.emod_eq_of_lt h2.1 h2.2
      rw [← a1, ← a2, e]
    have e2 : val q r = val q s := by
      have : q * val q r = q * val q s := by omega
      exact Int.eq_of_mul_eq_mul_left (by omega) this
    rw [e1, val_inj hq ha.tail hb.tail (can_tail' ca) (can_tail' cb) e2]
/-- the digits of a number -/
def digs (q : Nat) : Nat → Nat → List Int
  | 0, _ => []
  | f + 1, n => if n = 0 then [] else ((n % q : Nat) : Int) :: digs q f (n / q)
def limbs (q : Nat) (n : Nat) : List Int := digs q n n
theorem digs_spec {q : Nat} (hq : 2 ≤ q) : ∀ f n, n ≤ f → Wd q (digs q f n) ∧ Can (digs q f n) ∧ val q (digs q f n) = n := by
  intro f
  induction f with
  | zero => intro n hn; have : n = 0 := by omega
            subst this; exact ⟨Wd.nil _, Can.nil, rfl⟩
  | succ f ih =>
    intro n hn
    by_cases h0 : n = 0
    · subst h0; simp only [digs, if_pos]; exact ⟨Wd.nil _, Can.nil, rfl⟩
    have hdiv : n / q < n := Nat.div_lt_self (by omega) hq
    obtain ⟨h1, h2, h3⟩ := ih (n / q) (by omega)
    have hm : n % q < q := Nat.mod_lt _ (by omega)
    simp only [digs, if_neg h0]
    refine ⟨Wd.cons ⟨by omega, by omega⟩ h1, ?_, ?_⟩
    · by_cases hd : digs q f (n / q) = []
      · rw [hd]
        have : n / q = 0 := by rw [hd] at h3; simp only [val_nil] at h3; omega
        have hlt : n < q := by
          rcases Nat.div_eq_zero_iff.1 this with h | h
          · omega
          · exact h
        rw [Nat.mod_eq_of_lt hlt]
        simp [Can]; omega
      · obtain ⟨r, z, e⟩ := snoc_of hd
        rw [e] at h2 ⊢
        have := can_snoc.1 h2
        rw [← List.cons_append]; exact can_snoc.2 this
    · rw [val_cons, h3]
      have := Nat.mod_add_div n q
      have e : ((n % q + q * (n / q) : Nat) : Int) = (n : Int) := by rw [this]
      simpa using e
theorem limbs_wd {q : Nat} (hq : 2 ≤ q) (n : Nat) : Wd q (limbs q n) := (digs_spec hq n n (Nat.le_refl _)).1
theorem limbs_can {q : Nat} (hq : 2 ≤ q) (n : Nat) : Can (limbs q n) := (digs_spec hq n n (Nat.le_refl _)).2.1
theorem limbs_val {q : Nat} (hq : 2 ≤ q) (n : Nat) : val q (limbs q n) = n := (digs_spec hq n n (Nat.le_refl _)).2.2
theorem limbs_of {q : Nat} (hq : 2 ≤ q) {zs : List Int} {n : Nat} (h : Wd q zs) (hc : Can zs) (hv : val q zs = n) : limbs q n = zs :=
  val_inj (q := q) (by omega) (limbs_wd hq n) h (limbs_can hq n) hc (by rw [limbs_val hq, hv])
theorem limbs_eq_nil {q : Nat} (hq : 2 ≤ q) {n : Nat} : limbs q n = [] ↔ n = 0 := by
  constructor
  · intro h; have := limbs_val hq n; rw [h] at this; simp only [val_nil] at this; omega
  · intro h; subst h; rfl
/-- the lower row is the shorter one, or the one that is lower at the highest place where they part -/
theorem val_lt_of_len {q : Int} (hq : 1 < q) {a b : List Int} (ha : Wd q a) (hb : Wd q b) (cb : Can b) (h : a.length < b.length) : val q a < val q b := by
  have h1 := val_lt (by omega) ha
  have hn : b ≠ [] := by intro e; subst e; simp at h
  have h2 := val_ge (by omega) hb cb hn
  have h3 : q ^ a.length ≤ q ^ (b.length - 1) := pow_mono' (by omega) (by omega)
  omega
theorem val_take_drop (q : Int) (zs : List Int) (k : Nat) (h : k ≤ zs.length) : val q zs = val q (zs.take k) + q ^ k * val q (zs.drop k) := by
  have e := val_append q (zs.take k) (zs.drop k)
  rw [List.take_append_drop, List.length_take, Nat.min_eq_left h] at e
  exact e
/-- two rows of one length that agree above place k, the first one lower at k -/
theorem val_lt_at {q : Int} (hq : 1 < q) {a b : List Int} (ha : Wd q a) (hb : Wd q b) (hl : a.length = b.length) {k : Nat} (hk : k < a.length) (hd : a.drop (k + 1) = b.drop (k + 1)) (hlt : a.getD k 0 < b.getD k 0) : val q a < val q b := by
  have e1 := val_take_drop q a (k + 1) (by omega)
  have e2 := val_take_drop q b (k + 1) (by omega)
  rw [val_take_succ q hk] at e1
  rw [val_take_succ q (hl ▸ hk)] at e2
  have h1 := val_lt (by omega) (ha.take k)
  have h2 := val_nonneg (by omega) (hb.take k)
  rw [List.length_take, Nat.min_eq_left (by omega)] at h1
  have h3 : q ^ k * (a.getD k 0 + 1) ≤ q ^ k * b.getD k 0 := Int.mul_le_mul_of_nonneg_left (by omega) (Int.le_of_lt (pow_pos' (by omega) _))
  have h4 : q ^ k * (a.getD k 0 + 1) = q ^ k * a.getD k 0 + q ^ k := by grind
  rw [hd] at e1
  omega
end Go.Proofs.YtnniipekcbjloaaDoor
/- Rows of words in memory; what a later world keeps of them. No Go text is named here. -/
namespace Go.Proofs.YtnniipekcbjloaaDoor
open Go.RowKit
set_option linter.unusedVariables false
set_option linter.unusedSimpArgs false
/-- digit t (0 beyond the top) -/
def dig (zs : List Int) (t : Nat) : Int := zs.getD t 0
/-- a slice of len numbers zs, of kind k -/
structure RowAt (w : World) (k : IntKind) (ao : Option Addr) (len cap : Nat) (zs : List Int) : Prop where
  hlen : len = zs.length
  hcap : len ≤ cap
  hnil : ao = none → cap = 0
  hat : len = 0 ∨ ∃ b off, ao = some ⟨b, off, none⟩ ∧ b < w.heap.size ∧ ∀ t, t < len → w.cell? ⟨b, off + t, none⟩ = some (.int k (dig zs t))
theorem cell_lt {w : World} {p : Addr} {v : Value} (h : w.cell? p = some v) : p.block < w.heap.size := by
  by_cases hlt : p.block < w.heap.size
  · exact hlt
  · exfalso
    have : w.heap[p.block]? = none := by simp; omega
    simp [World.cell?, this] at h
theorem RowAt.get {w : World} {k : IntKind} {ao : Option Addr} {len cap : Nat} {zs : List Int} (h : RowAt w k ao len cap zs) (hp : 0 < len) :
    ∃ b off, ao = some ⟨b, off, none⟩ ∧ b < w.heap.size ∧ ∀ t, t < len → w.cell? ⟨b, off + t, none⟩ = some (.int k (dig zs t)) := by
  rcases h.hat with h | h
  · omega
  · exact h
theorem RowAt.later {w w' : World} {k : IntKind} {ao : Option Addr} {len cap : Nat} {zs : List Int} (h : RowAt w k ao len cap zs) (hb : Below w.heap.size w w') : RowAt w' k ao len cap zs := by
  refine ⟨h.hlen, h.hcap, h.hnil, ?_⟩
  rcases h.hat with h0 | ⟨b, off, h1, hlt, h2⟩
  · exact Or.inl h0
  · exact Or.inr ⟨b, off, h1, Nat.lt_of_lt_of_le hlt hb.size, fun t ht => by rw [hb.cell (p := ⟨b, off + t, none⟩) hlt]; exact h2 t ht⟩
theorem RowAt.nilRow (w : World) (k : IntKind) : RowAt w k none 0 0 [] := ⟨rfl, Nat.le_refl _, fun _ => rfl, Or.inl rfl⟩
theorem dig_take {zs : List Int} {n t : Nat} (h : t < n) : dig (zs.take n) t = dig zs t := by
  simp [dig, h]
theorem RowAt.take {w : World} {k : IntKind} {ao : Option Addr} {len cap : Nat} {zs : List Int} (h : RowAt w k ao len cap zs) {n : Nat} (hn : n ≤ len) : RowAt w k ao n cap (zs.take n) := by
  refine ⟨?_, Nat.le_trans hn h.hcap, h.hnil, ?_⟩
  · have := h.hlen; simp; omega
  · rcases h.hat with h0 | ⟨b, off, h1, hlt, h2⟩
    · exact Or.inl (by omega)
    · exact Or.inr ⟨b, off, h1, hlt, fun t ht => by rw [dig_take ht]; exact h2 t (by omega)⟩
/-- is it a number: its top word is not 0; 0 has no sign -/
def mayB (neg : Bool) (zs : List Int) : Bool := match zs.getLast? with | none => !neg | some z => z != 0
theorem mayB_nil (neg : Bool) : mayB neg [] = !neg := rfl
theorem mayB_last {neg : Bool} {zs : List Int} (h : zs ≠ []) : mayB neg zs = (dig zs (zs.length - 1) != 0) := by
  unfold mayB dig
  rw [List.getLast?_eq_getElem?]
  cases zs with
  | nil => exact absurd rfl h
  | cons x r => simp
/-- what a number's magnitude is in memory: its words -/
def mag (n : Nat) : List Int := limbs 18446744073709551616 n
theorem mag_wd (n : Nat) : Wd 18446744073709551616 (mag n) := limbs_wd (by decide) n
theorem mag_can (n : Nat) : Can (mag n) := limbs_can (by decide) n
theorem mag_val (n : Nat) : val 18446744073709551616 (mag n) = n := limbs_val (q := 18446744073709551616) (by decide) n
theorem mag_of {zs : List Int} {n : Nat} (h : Wd 18446744073709551616 zs) (hc : Can zs) (hv : val 18446744073709551616 zs = n) : mag n = zs := limbs_of (q := 18446744073709551616) (by decide) h hc hv
def half (n : Nat) : List Int := limbs 4294967296 n
theorem half_wd (n : Nat) : Wd 4294967296 (half n) := limbs_wd (by decide) n
theorem half_can (n : Nat) : Can (half n) := limbs_can (by decide) n
theorem half_val (n : Nat) : val 4294967296 (half n) = n := limbs_val (q := 4294967296) (by decide) n
theorem half_of {zs : List Int} {n : Nat} (h : Wd 4294967296 zs) (hc : Can zs) (hv : val 4294967296 zs = n) : half n = zs := limbs_of (q := 4294967296) (by decide) h hc hv
/-- zeros on top add nothing -/
theorem val_take_zeros (q : Int) {zs : List Int} : ∀ {k : Nat}, k ≤ zs.length → (∀ t, k ≤ t → t < zs.length → dig zs t = 0) → val q (zs.take k) = val q zs := by
  intro k hk h
  obtain ⟨d, hd⟩ : ∃ d, zs.length - k = d := ⟨_, rfl⟩
  induction d generalizing k with
  | zero => rw [List.take_of_length_le (by omega)]
  | succ d ih =>
    have h1 := ih (k := k + 1) (by omega) (fun t ht htl => h t (by omega) htl) (by omega)
    have h2 := val_take_succ q (zs := zs) (k := k) (by omega)
    have h3 : zs.getD k 0 = 0 := h k (Nat.le_refl _) (by omega)
    rw [h3] at h2; rw [← h1, h2]; simp
theorem can_take {zs : List Int} {k : Nat} (hk : k ≤ zs.length) (h : 0 < k → dig zs (k - 1) ≠ 0) : Can (zs.take k) := by
  cases k with
  | zero => simp [Can]
  | succ j => rw [take_getD (by omega)]; exact can_snoc.2 (by simpa [dig] using h (by omega))
theorem ret_bool {a b : Bool} (h : a = b) : Ending.returned (.bool a) = .returned (.bool b) := by rw [h]
theorem ret_int {k : IntKind} {a b : Int} (h : a = b) : Ending.returned (.int k a) = .returned (.int k b) := by rw [h]
theorem dig_ext {x y : List Int} (hl : x.length = y.length) (h : ∀ t, t < x.length → dig x t = dig y t) : x = y := by
  apply List.ext_getElem hl
  intro i h1 h2
  have := h i h1
  simpa [dig, h1, h2] using this
/-- a row that was cut behind its top digit -/
def Trimmed (w : World) (k : IntKind) (ao : Option Addr) (len cap : Nat) (zs : List Int) (e : Ending) : Prop :=
  ∃ ao' n cap', n ≤ len ∧ e = .returned (.slice ao' n cap') ∧ RowAt w k ao' n cap' (zs.take n) ∧ Can (zs.take n) ∧ (∀ q, val q (zs.take n) = val q zs) ∧ (ao' = ao ∧ cap' = cap ∨ ao' = none ∧ n = 0)
/-- how two numbers stand to each other -/
def cmpI (a b : Int) : Int := if a < b then -1 else if b < a then 1 else 0
theorem cmpI_lt {a b : Int} (h : a < b) : cmpI a b = -1 := by simp [cmpI, h]
theorem cmpI_gt {a b : Int} (h : b < a) : cmpI a b = 1 := by have : ¬ a < b := by omega
                                                             simp [cmpI, h, this]
theorem cmpI_eq {a b : Int} (h : a = b) : cmpI a b = 0 := by subst h; simp [cmpI]
theorem drop_dig {x y : List Int} {k : Nat} (hl : x.length = y.length) (h : ∀ t, k ≤ t → t < x.length → dig x t = dig y t) : x.drop k = y.drop k := by
  apply List.ext_getElem (by simp [hl])
  intro i h1 h2
  simp only [List.length_drop] at h1 h2
  have := h (k + i) (by omega) (by omega)
  simpa [dig, show k + i < x.length by omega, show k + i < y.length by omega] using this
end Go.Proofs.YtnniipekcbjloaaDoor
/- Walks: rows trimmed and compared. -/
namespace Go.Proofs.YtnniipekcbjloaaDoor
open Go.RowKit
set_option linter.unusedVariables false
set_option linter.unusedSimpArgs false
set_option maxHeartbeats 400000 in
theorem ntrim_any (ao : Option Addr) (len cap : Nat) (zs : List Int) (w : World) (hr : RowAt w .u64 ao len cap zs) (hl : cap ≤ 9223372036854775807) :
    Calls Tryd.prog 82 #[.slice ao len cap] w fun e w' => Trimmed w .u64 ao len cap zs e ∧ w' = w := by
  have hcl := hr.hcap
  have hle := hr.hlen
  have HL : Hid (len = zs.length) := hle
  clear hle
  go_enter Tryd.func82, Tryd.ntmps82
  go_wp2
  go_loop [3] (fun i => ∃ k : Nat, k ≤ len ∧ i = .int .i64 k ∧ ∀ t, k ≤ t → t < len → dig zs t = 0) (fun i => (intOf i).toNat)
  case atStart => exact ⟨len, Nat.le_refl _, rfl, fun t h1 h2 => by omega⟩
  case round =>
    obtain ⟨k, hk, rfl, hz⟩ := hrel
    have HZ : Hid (∀ t, k ≤ t → t < len → dig zs t = 0) := hz
    clear hz
    by_cases hk0 : k = 0
    · subst hk0
      go_wp2
      go_ret
      refine ⟨⟨ao, 0, cap, Nat.zero_le _, rfl, hr.take (Nat.zero_le _), can_take (Nat.zero_le _) (fun h => absurd h (by omega)), fun q => val_take_zeros q (Nat.zero_le _) (fun t h1 h2 => HZ.out t h1 (HL.out ▸ h2)), Or.inl ⟨rfl, rfl⟩⟩, rfl⟩
    · have hkp : 0 < k := by omega
      have HR : Hid (RowAt w .u64 ao len cap zs) := hr
      obtain ⟨b, off, rfl, hb, hc⟩ := hr.get (by omega)
      have hcell := hc (k - 1) (by omega)
      clear hc hr
      by_cases hd : dig zs (k - 1) = 0
      · rw [hd] at hcell
        have HD : Hid (dig zs (k - 1) = 0) := hd
        clear hd
        go_wp2
        go_round
        case rel => exact ⟨k - 1, by omega, by go_num, fun t h1 h2 => by
          by_cases e : t = k - 1
          · subst e; exact HD.out
          · exact HZ.out t (by omega) h2⟩
        case measure => simp [intOf]; omega
      · have hd' : (dig zs (k - 1) == 0) = false := by simpa using hd
        obtain ⟨z, hz⟩ : ∃ z, dig zs (k - 1) = z := ⟨_, rfl⟩
        rw [hz] at hcell hd'
        have HD : Hid (dig zs (k - 1) ≠ 0) := hd
        clear hd hz
        go_wp2
        go_ret
        refine ⟨⟨_, k, cap, hk, rfl, HR.out.take hk, can_take (HL.out ▸ hk) (fun _ => HD.out), fun q => val_take_zeros q (HL.out ▸ hk) (fun t h1 h2 => HZ.out t h1 (HL.out ▸ h2)), Or.inl ⟨rfl, rfl⟩⟩, rfl⟩
set_option maxHeartbeats 800000 in
theorem eqwords_any (ao bo : Option Addr) (la ca lb cb : Nat) (x y : List Int) (w : World) (hx : RowAt w .u64 ao la ca x) (hy : RowAt w .u64 bo lb cb y) (hl : la ≤ 4611686018427387904) :
    Calls Tryd.prog 58 #[.slice ao la ca, .slice bo lb cb] w fun e w' => e = .returned (.bool (decide (x = y))) ∧ Below w.heap.size w w' := by
  by_cases hlen : la = lb
  · subst hlen
    have HX := hx.hlen; have HY := hy.hlen
    have hh : Hid (la = x.length ∧ la = y.length) := ⟨HX, HY⟩
    clear HX HY
    go_enter Tryd.func58, Tryd.ntmps58
    go_wp2
    go_loopw [5] (fun i wr => ∃ k : Nat, k ≤ la ∧ i = .int .i64 k ∧ (∃ nq, wr = w.drewN nq) ∧ ∀ t, t < k → dig x t = dig y t) (fun i _ => la - (intOf i).toNat)
    case atStart => exact ⟨0, Nat.zero_le _, rfl, ⟨0, rfl⟩, fun t ht => absurd ht (by omega)⟩
    case round =>
      obtain ⟨k, hk, rfl, ⟨nq, rfl⟩, hz⟩ := hrel
      have HZ : Hid (∀ t, t < k → dig x t = dig y t) := hz
      clear hz
      by_cases hlt : k < la
      · obtain ⟨b, off, rfl, hb, hc⟩ := hx.get (by omega)
        obtain ⟨b', off', rfl, hb', hc'⟩ := hy.get (by omega)
        have h1 := hc k hlt
        have h2 := hc' k hlt
        clear hx hy hc hc'
        have hlt' : (k : Int) < (la : Int) := by omega
        have hge' : (0 : Int) ≤ (k : Int) := by omega
        obtain ⟨u, hu⟩ : ∃ u, dig x k = u := ⟨_, rfl⟩
        obtain ⟨v, hv⟩ : ∃ v, dig y k = v := ⟨_, rfl⟩
        have HU : Hid (dig x k = u ∧ dig y k = v) := ⟨hu, hv⟩
        rw [hu] at h1; rw [hv] at h2
        clear hu hv
        by_cases he : u = v
        · subst he
          go_wp2
          go_quiet (fail)
          go_wp2
          go_roundw
          case rel => exact ⟨k + 1, by omega, by go_num, ⟨_, rfl⟩, fun t ht => by
            by_cases e : t = k
            · subst e; rw [HU.out.1, HU.out.2]
            · exact HZ.out t (by omega)⟩
          case measure => simp [intOf]; omega
        · have he' : (u != v) = true := by simpa using he
          have HE : Hid (¬ u = v) := he
          clear he
          go_wp2
          go_quiet (fail)
          go_wp2
          go_ret
          refine ⟨ret_bool (a := false) (decide_eq_false ?_).symm, below_drewN (below_drewN (Below.refl _ _) _) _⟩
          intro e; subst e
          exact HE.out (HU.out.1.symm.trans HU.out.2)
      · go_wp2
        go_ret
        refine ⟨ret_bool (a := true) (decide_eq_true ?_).symm, below_drewN (Below.refl _ _) _⟩
        exact dig_ext (by have := hh.out; omega) (fun t ht => HZ.out t (by have := hh.out; omega))
  · have hne : Hid (¬ x = y) := fun e => by have h1 := hx.hlen; have h2 := hy.hlen; subst e; omega
    have hlen' : ((la : Int) != (lb : Int)) = true := by simp; omega
    go_enter Tryd.func58, Tryd.ntmps58
    go_wp2
    go_ret
    exact ⟨ret_bool (a := false) (decide_eq_false hne.out).symm, Below.refl _ _⟩
end Go.Proofs.YtnniipekcbjloaaDoor
/- Walks: rows compared. -/
namespace Go.Proofs.YtnniipekcbjloaaDoor
open Go.RowKit
set_option linter.unusedVariables false
set_option linter.unusedSimpArgs false
set_option maxHeartbeats 1000000 in
theorem ncmp_any (ao bo : Option Addr) (la ca lb cb : Nat) (x y : List Int) (w : World) (hx : RowAt w .u64 ao la ca x) (hy : RowAt w .u64 bo lb cb y) (wx : Wd 18446744073709551616 x) (wy : Wd 18446744073709551616 y) (cx : Can x) (cy : Can y) (hl : la ≤ 4611686018427387904) (hl' : lb ≤ 4611686018427387904) :
    Calls Tryd.prog 93 #[.slice ao la ca, .slice bo lb cb] w fun e w' => e = .returned (.int .i64 (cmpI (val 18446744073709551616 x) (val 18446744073709551616 y))) ∧ Below w.heap.size w w' := by
  have hh : Hid (la = x.length ∧ lb = y.length) := ⟨hx.hlen, hy.hlen⟩
  have HW : Hid (Wd 18446744073709551616 x ∧ Wd 18446744073709551616 y ∧ Can x ∧ Can y) := ⟨wx, wy, cx, cy⟩
  clear wx wy cx cy
  rcases Nat.lt_trichotomy la lb with hlt | heq | hgt
  · have h1 : Hid (val 18446744073709551616 x < val 18446744073709551616 y) := val_lt_of_len (by decide) HW.out.1 HW.out.2.1 HW.out.2.2.2 (by have := hh.out; omega)
    have h2 : ((la : Int) != (lb : Int)) = true := by simp; omega
    go_enter Tryd.func93, Tryd.ntmps93
    go_wp2
    go_ret
    exact ⟨ret_int (a := -1) (cmpI_lt h1.out).symm, Below.refl _ _⟩
  · subst heq
    go_enter Tryd.func93, Tryd.ntmps93
    go_wp2
    go_loopw [5] (fun i wr => ∃ k : Nat, k ≤ la ∧ i = .int .i64 ((k : Int) - 1) ∧ (∃ nq, wr = w.drewN nq) ∧ ∀ t, k ≤ t → t < la → dig x t = dig y t) (fun i _ => (intOf i + 1).toNat)
    case atStart => exact ⟨la, Nat.le_refl _, rfl, ⟨0, rfl⟩, fun t h1 h2 => absurd h1 (by omega)⟩
    case round =>
      obtain ⟨k, hk, rfl, ⟨nq, rfl⟩, hz⟩ := hrel
      have HZ : Hid (∀ t, k ≤ t → t < la → dig x t = dig y t) := hz
      clear hz
      by_cases hk0 : 0 < k
      · obtain ⟨b, off, rfl, hb, hc⟩ := hx.get (by omega)
        obtain ⟨b', off', rfl, hb', hc'⟩ := hy.get (by omega)
        have h1 := hc (k - 1) (by omega)
        have h2 := hc' (k - 1) (by omega)
        clear hx hy hc hc'
        have hlt' : (k : Int) - 1 < (la : Int) := by omega
        have hge' : (0 : Int) ≤ (k : Int) - 1 := by omega
        obtain ⟨u, hu⟩ : ∃ u, dig x (k - 1) = u := ⟨_, rfl⟩
        obtain ⟨v, hv⟩ : ∃ v, dig y (k - 1) = v := ⟨_, rfl⟩
        have HU : Hid (dig x (k - 1) = u ∧ dig y (k - 1) = v) := ⟨hu, hv⟩
        have HD : Hid (x.drop (k - 1 + 1) = y.drop (k - 1 + 1)) := drop_dig (by have := hh.out; omega) (fun t a1 a2 => HZ.out t (by omega) (by have := hh.out; omega))
        rw [hu] at h1; rw [hv] at h2
        clear hu hv
        rcases Int.lt_trichotomy u v with he | he | he
        · go_wp2
          go_quiet (fail)
          go_wp2
          go_ret
          exact ⟨ret_int (a := -1) (cmpI_lt (val_lt_at (by decide) HW.out.1 HW.out.2.1 (by have := hh.out; omega) (k := k - 1) (by have := hh.out; omega) HD.out (by rw [← HU.out.1, ← HU.out.2] at he; exact he))).symm, below_drewN (below_drewN (Below.refl _ _) _) _⟩
        · subst he
          go_wp2
          go_quiet (fail)
          go_wp2
          go_quiet (fail)
          go_wp2
          go_roundw
          case rel => exact ⟨k - 1, by omega, by go_num, ⟨_, rfl⟩, fun t a1 a2 => by
            by_cases e : t = k - 1
            · subst e; rw [HU.out.1, HU.out.2]
            · exact HZ.out t (by omega) a2⟩
          case measure => simp [intOf]; omega
        · have he' : ¬ u < v := by omega
          have he2 : decide (u < v) = false := by simpa using he'
          go_wp2
          go_quiet (fail)
          go_wp2
          go_quiet (fail)
          go_wp2
          go_ret
          exact ⟨ret_int (a := 1) (cmpI_gt (val_lt_at (by decide) HW.out.2.1 HW.out.1 (by have := hh.out; omega) (k := k - 1) (by have := hh.out; omega) HD.out.symm (by rw [← HU.out.1, ← HU.out.2] at he; exact he))).symm, below_drewN (below_drewN (below_drewN (Below.refl _ _) _) _) _⟩
      · have hk1 : k = 0 := by omega
        subst hk1
        go_wp2
        go_ret
        refine ⟨ret_int (a := 0) (cmpI_eq ?_).symm, below_drewN (Below.refl _ _) _⟩
        rw [dig_ext (by have := hh.out; omega) (fun t ht => HZ.out t (by omega) (by have := hh.out; omega))]
  · have h1 : Hid (val 18446744073709551616 y < val 18446744073709551616 x) := val_lt_of_len (by decide) HW.out.2.1 HW.out.1 HW.out.2.2.1 (by have := hh.out; omega)
    have h2 : ((la : Int) != (lb : Int)) = true := by simp; omega
    go_enter Tryd.func93, Tryd.ntmps93
    go_wp2
    go_ret
    exact ⟨ret_int (a := 1) (cmpI_gt h1.out).symm, Below.refl _ _⟩
end Go.Proofs.YtnniipekcbjloaaDoor
/- A whole block of numbers that a call made itself, and may write; a slice that lies in such a block. -/
namespace Go.Proofs.YtnniipekcbjloaaDoor
open Go.RowKit
set_option linter.unusedVariables false
set_option linter.unusedSimpArgs false
/-- block g holds the numbers L, of kind k, and may be written -/
def Blk (w : World) (g : Nat) (k : IntKind) (t : TypeId) (L : List Int) : Prop := w.heap[g]? = some (.cells (L.map (Value.int k)).toArray t (0, 0))
theorem Blk.lt {w : World} {g : Nat} {k : IntKind} {t : TypeId} {L : List Int} (h : Blk w g k t L) : g < w.heap.size := by
  by_cases hlt : g < w.heap.size
  · exact hlt
  · exfalso
    have : w.heap[g]? = none := by simp; omega
    unfold Blk at h; rw [this] at h; cases h
theorem Blk.cell {w : World} {g : Nat} {k : IntKind} {t : TypeId} {L : List Int} (h : Blk w g k t L) {j : Nat} (hj : j < L.length) : w.cell? ⟨g, j, none⟩ = some (.int k (dig L j)) := by
  unfold Blk at h
  simp [World.cell?, h, dig, hj]
theorem Blk.frozen {w : World} {g : Nat} {k : IntKind} {t : TypeId} {L : List Int} (h : Blk w g k t L) (j : Nat) : w.frozen? ⟨g, j, none⟩ = false := by
  unfold Blk at h
  simp [World.frozen?, h]
theorem Blk.later {w w' : World} {g : Nat} {k : IntKind} {t : TypeId} {L : List Int} (h : Blk w g k t L) {B : Nat} (hb : Below B w w') (hg : g < B) : Blk w' g k t L := by
  unfold Blk at h ⊢; rw [hb.block g hg]; exact h
theorem Blk.all {w w' : World} {g : Nat} {k : IntKind} {t : TypeId} {L : List Int} (h : Blk w g k t L) (hb : Below w.heap.size w w') : Blk w' g k t L := h.later hb h.lt
theorem Blk.drew {w : World} {g : Nat} {k : IntKind} {t : TypeId} {L : List Int} (h : Blk w g k t L) : Blk w.drew g k t L := h
theorem Blk.drewN {w : World} {g : Nat} {k : IntKind} {t : TypeId} {L : List Int} (h : Blk w g k t L) (n : Nat) : Blk (w.drewN n) g k t L := h
theorem Blk.alloc {w : World} {g : Nat} {k : IntKind} {t : TypeId} {L : List Int} (h : Blk w g k t L) (o : Obj) : Blk (w.alloc o) g k t L := by
  have := h.lt
  unfold Blk at h ⊢; rw [Below.heap_alloc _ _ _ this]; exact h
theorem Blk.set {w : World} {g : Nat} {k : IntKind} {t : TypeId} {L : List Int} (h : Blk w g k t L) (j : Nat) (z : Int) : Blk (w.setCell ⟨g, j, none⟩ (.int k z)) g k t (L.set j z) := by
  have hlt := h.lt
  unfold Blk at h ⊢
  simp only [World.setCell, Array.getElem?_modify, if_true]
  rw [h]
  simp
theorem Blk.other {w : World} {g : Nat} {k : IntKind} {t : TypeId} {L : List Int} (h : Blk w g k t L) {a : Addr} (ha : g ≠ a.block) (v : Value) : Blk (w.setCell a v) g k t L := by
  unfold Blk at h ⊢; rw [Below.heap_setCell _ _ _ _ ha]; exact h
theorem Blk.new (w : World) (k : IntKind) (t : TypeId) (L : List Int) : Blk (w.alloc (.cells (L.map (Value.int k)).toArray t (0, 0))) w.heap.size k t L := by
  unfold Blk; exact heap_alloc_new w _
theorem made_map (k : IntKind) (n : Nat) : (madeCells (Value.int k 0).cells (n * 1)).toList = (List.replicate n (0 : Int)).map (Value.int k) := by
  simp [madeCells, Value.cells]
  apply List.ext_getElem
  · simp
  · intro i h1 h2
    simp [Nat.mod_one]
theorem blk_of_owns {w : World} {base g n : Nat} {k : IntKind} {t : TypeId} {L : List Int} (hl : L.length = n) (h : w.ownsRow base t 1 (.slice (some ⟨g, 0, none⟩) n n) n (L.map (Value.int k))) : Blk w g k t L ∧ base ≤ g := by
  obtain ⟨_, h2⟩ := h
  rcases h2 with ⟨h2, _⟩ | ⟨g', cap, cur, hv, hg, hh, hc1, _, hs, ht⟩
  · cases h2
  · simp only [Value.slice.injEq, Option.some.injEq, Addr.mk.injEq] at hv
    obtain ⟨⟨rfl, _⟩, _, rfl⟩ := hv
    refine ⟨?_, hg⟩
    unfold Blk; rw [hh]
    congr 2
    rw [← ht, List.take_of_length_le (by simp; omega)]
/-- a slice in a block of the call's own, from block B on -/
def Own (B : Nat) (w : World) (k : IntKind) (t : TypeId) (ao : Option Addr) (len cap : Nat) (zs : List Int) : Prop :=
  (ao = none ∧ len = 0 ∧ cap = 0 ∧ zs = []) ∨ ∃ g off cur, ao = some ⟨g, off, none⟩ ∧ B ≤ g ∧ w.heap[g]? = some (.cells cur t (0, 0)) ∧ off + cap ≤ cur.size ∧ len ≤ cap ∧ zs.length = len ∧ ∀ j, j < len → cur[off + j]? = some (.int k (dig zs j))
theorem heap_lt {w : World} {g : Nat} {o : Obj} (h : w.heap[g]? = some o) : g < w.heap.size := by
  by_cases e : g < w.heap.size
  · exact e
  · rw [Array.getElem?_eq_none (by omega)] at h; cases h
theorem dig_drop_take {L : List Int} {off len t : Nat} (h : t < len) : dig ((L.drop off).take len) t = dig L (off + t) := by
  simp [dig, h]
theorem Own.row {B : Nat} {w : World} {k : IntKind} {t : TypeId} {ao : Option Addr} {len cap : Nat} {zs : List Int} (h : Own B w k t ao len cap zs) : RowAt w k ao len cap zs := by
  rcases h with ⟨rfl, rfl, rfl, rfl⟩ | ⟨g, off, cur, rfl, hB, hb, hc, hl, hz, hcell⟩
  · exact RowAt.nilRow w k
  · refine ⟨hz.symm, hl, fun e => (by cases e), Or.inr ⟨g, off, rfl, heap_lt hb, fun t ht => ?_⟩⟩
    simp [World.cell?, hb, hcell t ht]
theorem Own.mono {B B' : Nat} {w : World} {k : IntKind} {t : TypeId} {ao : Option Addr} {len cap : Nat} {zs : List Int} (h : Own B w k t ao len cap zs) (hB : B' ≤ B) : Own B' w k t ao len cap zs := by
  rcases h with h | ⟨g, off, L, h1, h2, h3⟩
  · exact Or.inl h
  · exact Or.inr ⟨g, off, L, h1, Nat.le_trans hB h2, h3⟩
theorem Own.later {B : Nat} {w w' : World} {k : IntKind} {t : TypeId} {ao : Option Addr} {len cap : Nat} {zs : List Int} (h : Own B w k t ao len cap zs) (hb : Below w.heap.size w w') : Own B w' k t ao len cap zs := by
  rcases h with h | ⟨g, off, L, h1, h2, h3, h4⟩
  · exact Or.inl h
  · exact Or.inr ⟨g, off, L, h1, h2, by rw [hb.block g (heap_lt h3)]; exact h3, h4⟩
theorem Own.take {B : Nat} {w : World} {k : IntKind} {t : TypeId} {ao : Option Addr} {len cap : Nat} {zs : List Int} (h : Own B w k t ao len cap zs) {n : Nat} (hn : n ≤ len) : Own B w k t ao n cap (zs.take n) := by
  rcases h with ⟨h1, h2, h3, h4⟩ | ⟨g, off, L, h1, h2, h3, h4, h5, h6, h7⟩
  · exact Or.inl ⟨h1, by omega, h3, by subst h4; simp⟩
  · exact Or.inr ⟨g, off, L, h1, h2, h3, h4, by omega, by simp; omega, fun j hj => by rw [dig_take hj]; exact h7 j (by omega)⟩
theorem Own.none_ {B : Nat} {w : World} {k : IntKind} {t : TypeId} : Own B w k t none 0 0 [] := Or.inl ⟨rfl, rfl, rfl, rfl⟩
theorem Own.whole {B : Nat} {w : World} {k : IntKind} {t : TypeId} {g n : Nat} {L : List Int} (h : Blk w g k t L) (hB : B ≤ g) (hn : n = L.length) : Own B w k t (some ⟨g, 0, none⟩) n n L :=
  Or.inr ⟨g, 0, _, rfl, hB, h, by simp; omega, Nat.le_refl _, hn.symm, fun j hj => by simp [dig, show j < L.length by omega]⟩
theorem Own.ofRow {B : Nat} {w : World} {k : IntKind} {t : TypeId} {ao : Option Addr} {n cap : Nat} {L : List Int} (hl : L.length = n) (h : w.ownsRow B t 1 (.slice ao n cap) n (L.map (Value.int k))) : Own B w k t ao n cap L := by
  rcases h.2 with ⟨hv, h0⟩ | ⟨g, cap', cur, hv, hg, hh, hc1, _, hs, ht⟩
  · cases hv
    exact Or.inl ⟨rfl, rfl, rfl, List.eq_nil_of_length_eq_zero hl⟩
  · simp only [Value.slice.injEq] at hv
    obtain ⟨rfl, _, rfl⟩ := hv
    refine Or.inr ⟨g, 0, cur, rfl, hg, hh, by omega, hc1, hl, fun j hj => ?_⟩
    have e1 : cur.toList[j]? = some (.int k (dig L j)) := by
      have : (cur.toList.take (n * 1))[j]? = (L.map (Value.int k))[j]? := by rw [ht]
      rw [List.getElem?_take, if_pos (by omega)] at this
      rw [this]; simp [dig, show j < L.length by omega]
    rw [Nat.zero_add]; simpa using e1
/-- a number's words, in memory of the call's own: what a call hands back -/
def NewNat (w w' : World) (e : Ending) (n : Nat) : Prop :=
  ∃ ao len cap, e = .returned (.slice ao len cap) ∧ Own w.heap.size w' .u64 25 ao len cap (mag n) ∧ Below w.heap.size w w'
def sgB (v : Int) : Bool := decide (v < 0)
def sgn (neg : Bool) (n : Nat) : Int := if neg then -(n : Int) else n
theorem natAbs_sgn (neg : Bool) (n : Nat) : (sgn neg n).natAbs = n := by unfold sgn; split <;> omega
theorem sgB_sgn (neg : Bool) (n : Nat) : sgB (sgn neg n) = (neg && decide (0 < (mag n).length)) := by
  have h : 0 < (mag n).length ↔ 0 < n := by
    rw [List.length_pos_iff]
    constructor
    · intro h; by_cases e : n = 0
      · subst e; exact absurd rfl h
      · omega
    · intro h e
      have := (limbs_eq_nil (q := 18446744073709551616) (by decide)).1 e
      omega
  cases neg
  · have : ¬ (n : Int) < 0 := by omega
    simp [sgB, sgn]
  · simp only [sgB, sgn, if_true, Bool.true_and]
    by_cases e : 0 < n
    · rw [decide_eq_true (h.2 e), decide_eq_true (by omega)]
    · rw [decide_eq_false (fun x => e (h.1 x)), decide_eq_false (by omega)]
/-- a number in memory: its sign, its words -/
structure IntAt (w : World) (neg : Bool) (ao : Option Addr) (len cap : Nat) (v : Int) : Prop where
  sg : neg = sgB v
  row : RowAt w .u64 ao len cap (mag v.natAbs)
theorem IntAt.later {w w' : World} {neg : Bool} {ao : Option Addr} {len cap : Nat} {v : Int} (h : IntAt w neg ao len cap v) (hb : Below w.heap.size w w') : IntAt w' neg ao len cap v := ⟨h.sg, h.row.later hb⟩
/-- a number, in memory of the call's own: what a call hands back -/
def NewInt (w w' : World) (e : Ending) (v : Int) : Prop :=
  ∃ neg ao len cap, e = .returned (.agg #[.bool neg, .slice ao len cap]) ∧ neg = sgB v ∧ Own w.heap.size w' .u64 25 ao len cap (mag v.natAbs) ∧ Below w.heap.size w w'
theorem sgn_of {neg : Bool} {v : Int} (h : neg = sgB v) : sgn neg v.natAbs = v := by
  subst h; unfold sgn sgB; split
  · rename_i h; have := of_decide_eq_true h; omega
  · rename_i h; have : ¬ v < 0 := fun e => h (decide_eq_true e)
    omega
end Go.Proofs.YtnniipekcbjloaaDoor
/- Closed facts of the program's tables. -/
namespace Go.Proofs.YtnniipekcbjloaaDoor
open Go.RowKit
set_option linter.unusedVariables false
set_option linter.unusedSimpArgs false
theorem info64 : (Tryd.prog.info? 25).map (fun i => (i.zero, i.size, i.bytes)) = some (some (.int .u64 0), 1, 8) := by kernel_rfl
theorem size64 : (Tryd.prog.info? 25).map (·.size) = some 1 := by kernel_rfl
theorem info32 : (Tryd.prog.info? 111).map (fun i => (i.zero, i.size, i.bytes)) = some (some (.int .u32 0), 1, 4) := by kernel_rfl
/-- what was made, as a block of zeros -/
theorem made_blk {w w' : World} {B n : Nat} {k : IntKind} {t : TypeId} (h : w'.ownsRow B t 1 (.slice (some ⟨w.heap.size, 0, none⟩) n n) n (madeCells (Value.int k 0).cells (n * 1)).toList) : Blk w' w.heap.size k t (List.replicate n 0) := by
  rw [made_map] at h
  exact (blk_of_owns (by simp) h).1
theorem grown_below {w w' : World} (h : w.grownBy w' none) : Below w.heap.size w w' := (Below.refl _ w).grown h (Nat.le_refl _) (fun k e => by cases e)
theorem RowAt.src {w : World} {k : IntKind} {ao : Option Addr} {len cap : Nat} {zs : List Int} (h : RowAt w k ao len cap zs) (hp : 0 < len) : ∃ ad, ao = some ad ∧ ∀ j v, (zs.map (Value.int k))[j]? = some v → w.cell? (ad.add j) = some v := by
  obtain ⟨b, off, rfl, _, hc⟩ := h.get hp
  refine ⟨_, rfl, fun j v hj => ?_⟩
  simp only [List.getElem?_map, Option.map_eq_some_iff] at hj
  obtain ⟨z, hz, rfl⟩ := hj
  obtain ⟨hjl, hz⟩ := List.getElem?_eq_some_iff.1 hz
  have := hc j (by rw [h.hlen]; exact hjl)
  have e : Addr.add ⟨b, off, none⟩ j = ⟨b, off + j, none⟩ := by
    by_cases h0 : j = 0
    · subst h0; simp [Addr.add]
    · simp [Addr.add, h0]
  rw [e, this]; simp [dig, hjl, hz]
theorem splice_map (k : IntKind) (L : List Int) (off : Nat) (cs : List Int) : splice (L.map (Value.int k)) off (cs.map (Value.int k)) = (splice L off cs).map (Value.int k) := by simp [splice]
theorem blk_splice {w : World} {g off : Nat} {k : IntKind} {t : TypeId} {L cs : List Int} (h : w.heap[g]? = some (.cells (splice (L.map (Value.int k)) off (cs.map (Value.int k))).toArray t (0, 0))) : Blk w g k t (splice L off cs) := by
  unfold Blk; rw [h, splice_map]
end Go.Proofs.YtnniipekcbjloaaDoor
/- Walks: rows made and copied. -/
namespace Go.Proofs.YtnniipekcbjloaaDoor
open Go.RowKit
set_option linter.unusedVariables false
set_option linter.unusedSimpArgs false
end Go.Proofs.YtnniipekcbjloaaDoor
/- math/bits.Add64 and Sub64 at this program. -/
namespace Go.Proofs.YtnniipekcbjloaaDoor
open Go.RowKit
set_option linter.unusedVariables false
set_option linter.unusedSimpArgs false
theorem add64 (x y c : Int) (hx : 0 ≤ x) (hy : 0 ≤ y) (hc0 : 0 ≤ c) (hc : c ≤ 1) (w : World) : (callFunc 84 #[.int .u64 x, .int .u64 y, .int .u64 c]).run Tryd.prog w =
    .ok (.value (.tuple #[.int .u64 ((x + y + c) % 18446744073709551616), .int .u64 ((x + y + c) / 18446744073709551616)])) w := by
  obtain ⟨x, rfl⟩ := Int.eq_ofNat_of_zero_le hx
  obtain ⟨y, rfl⟩ := Int.eq_ofNat_of_zero_le hy
  obtain ⟨c, rfl⟩ := Int.eq_ofNat_of_zero_le hc0
  rw [run_callFunc_extern Tryd.func84 (by kernel_rfl) (by kernel_rfl) (by kernel_rfl) (e := add64Entry) (by kernel_rfl), run_add64 x y c (by omega) (by omega) (by omega) (by omega)]
  simp only [Result.andThen]
theorem add64_ex (x y c : Int) (hx : 0 ≤ x ∧ x < 18446744073709551616) (hy : 0 ≤ y ∧ y < 18446744073709551616) (hc0 : 0 ≤ c) (hc : c ≤ 1) : ∃ d c' : Int, (∀ w : World, (callFunc 84 #[.int .u64 x, .int .u64 y, .int .u64 c]).run Tryd.prog w = .ok (.value (.tuple #[.int .u64 d, .int .u64 c'])) w) ∧ (0 ≤ d ∧ d < 18446744073709551616) ∧ (0 ≤ c' ∧ c' ≤ 1) ∧ d + 1 * (c' * 18446744073709551616) = x + 1 * (y + c) :=
  ⟨_, _, fun w => add64 x y c hx.1 hy.1 hc0 hc w, by omega, by omega, by omega⟩
end Go.Proofs.YtnniipekcbjloaaDoor
/- Plain mathematics: a row added to, or taken from, part of a row, digit by digit. -/
namespace Go.Proofs.YtnniipekcbjloaaDoor
set_option linter.unusedVariables false
set_option linter.unusedSimpArgs false
/-- the number of the k digits from place off on -/
def V (q : Int) (L : List Int) (off k : Nat) : Int := val q ((L.drop off).take k)
theorem val_take_dig (q : Int) (zs : List Int) (k : Nat) : val q (zs.take (k + 1)) = val q (zs.take k) + q ^ k * dig zs k := by
  by_cases h : k < zs.length
  · exact val_take_succ q h
  · rw [List.take_of_length_le (by omega), List.take_of_length_le (by omega)]
    have : dig zs k = 0 := by simp [dig, List.getElem?_eq_none (Nat.le_of_not_lt h)]
    rw [this]; simp
theorem dig_drop (L : List Int) (off k : Nat) : dig (L.drop off) k = dig L (off + k) := by simp [dig]
theorem V_zero (q : Int) (L : List Int) (off : Nat) : V q L off 0 = 0 := by simp [V, val]
theorem V_succ (q : Int) (L : List Int) (off k : Nat) : V q L off (k + 1) = V q L off k + q ^ k * dig L (off + k) := by
  unfold V; rw [val_take_dig, dig_drop]
theorem V_congr {q : Int} {L L' : List Int} {off off' k : Nat} (h : ∀ j, j < k → dig L (off + j) = dig L' (off' + j)) : V q L off k = V q L' off' k := by
  induction k with
  | zero => simp [V_zero]
  | succ k ih => rw [V_succ, V_succ, ih (fun j hj => h j (by omega)), h k (by omega)]
theorem V_split (q : Int) (L : List Int) (off k m : Nat) : V q L off (k + m) = V q L off k + q ^ k * V q L (off + k) m := by
  induction m with
  | zero => simp [V_zero]
  | succ m ih =>
    rw [← Nat.add_assoc, V_succ, ih, V_succ, Int.mul_add, Nat.add_assoc off k m, Int.pow_add]
    grind
theorem V_all (q : Int) {L : List Int} {n : Nat} (h : n = L.length) : V q L 0 n = val q L := by subst h; simp [V]
theorem V_nonneg {q : Int} (hq : 0 < q) {L : List Int} (h : Wd q L) (off k : Nat) : 0 ≤ V q L off k := val_nonneg hq ((h.drop off).take k)
theorem V_lt {q : Int} (hq : 1 < q) {L : List Int} (h : Wd q L) (off k : Nat) : V q L off k < q ^ k := by
  have h1 := val_lt (by omega) ((h.drop off).take k)
  have h2 : q ^ ((L.drop off).take k).length ≤ q ^ k := pow_mono' (by omega) (by simp; omega)
  unfold V; omega
theorem dig_set {L : List Int} {i : Nat} {z : Int} (j : Nat) (hi : i < L.length) : dig (L.set i z) j = if j = i then z else dig L j := by
  unfold dig
  by_cases h : j = i
  · subst h; simp [hi]
  · simp [h, List.getElem?_set_ne (Ne.symm h)]
theorem Wd.set {q : Int} {L : List Int} (h : Wd q L) (i : Nat) {z : Int} (hz : 0 ≤ z ∧ z < q) : Wd q (L.set i z) := fun x hx => by
  rcases List.mem_or_eq_of_mem_set hx with e | e
  · exact h x e
  · exact e ▸ hz
theorem Wd.dig {q : Int} (hq : 0 < q) {L : List Int} (h : Wd q L) (j : Nat) : 0 ≤ dig L j ∧ dig L j < q := h.getD hq j
/-- s = 1: the first k digits of ys were added to those of L from off on, c is carried; s = -1: they were taken away, c is borrowed -/
structure St (s q : Int) (L ys : List Int) (off k : Nat) (c : Int) (Lk : List Int) : Prop where
  len : Lk.length = L.length
  out : ∀ j, j < off ∨ off + k ≤ j → dig Lk j = dig L j
  wd : Wd q Lk
  c0 : 0 ≤ c
  c1 : c ≤ 1
  eq : V q Lk off k + s * (c * q ^ k) = V q L off k + s * val q (ys.take k)
theorem St.start {s q : Int} {L ys : List Int} (off : Nat) (h : Wd q L) : St s q L ys off 0 0 L :=
  ⟨rfl, fun _ _ => rfl, h, Int.le_refl _, by decide, by simp [V_zero, val]⟩
theorem St.step {s q : Int} {L ys : List Int} {off k : Nat} {c : Int} {Lk : List Int} (h : St s q L ys off k c Lk) (hk : off + k < L.length) {d c' : Int} (hd : 0 ≤ d ∧ d < q) (hc : 0 ≤ c' ∧ c' ≤ 1)
    (he : d + s * (c' * q) = dig L (off + k) + s * (dig ys k + c)) : St s q L ys off (k + 1) c' (Lk.set (off + k) d) := by
  have hl : off + k < Lk.length := by rw [h.len]; exact hk
  refine ⟨by simp [h.len], fun j hj => ?_, h.wd.set _ hd, hc.1, hc.2, ?_⟩
  · rw [dig_set _ hl, if_neg (by omega)]; exact h.out j (by omega)
  · have e1 : V q (Lk.set (off + k) d) off k = V q Lk off k := V_congr fun j hj => by rw [dig_set _ hl, if_neg (by omega)]
    rw [V_succ, V_succ, e1, dig_set _ hl, if_pos rfl, val_take_dig, Int.pow_succ]
    have h1 := h.eq
    have e2 : q ^ k * (d + s * (c' * q)) = q ^ k * (dig L (off + k) + s * (dig ys k + c)) := by rw [he]
    grind
end Go.Proofs.YtnniipekcbjloaaDoor
