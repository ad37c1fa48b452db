/-
  EJ, EK, EL.
-/
import Derived.Test.YtiiefpnkpfliiaaGreatDoorEI

/- Walks: rootStep (short numbers). -/
namespace Go.Proofs.YtiiefpnkpfliiaaGreatDoor
open Go.RowKit Go.Shelf
set_option linter.unusedVariables false
set_option linter.unusedSimpArgs false

/-- a row of one word, just laid -/
theorem one_row (w : World) (n : Nat) (h0 : 0 < n) (h1 : n < 18446744073709551616) : Own w.heap.size (w.alloc (.cells #[.int .u64 (n : Int)] 59)) .u64 59 (some ⟨w.heap.size, 0, none⟩) 1 1 (mag n) := by
  rw [mag_one h0 h1]
  exact Own.whole (Blk.new w .u64 59 [(n : Int)]) (Nat.le_refl _) rfl

theorem one_row' (w : World) (n : Nat) (v : Int) (hv : v = (n : Int)) (h0 : 0 < n) (h1 : n < 18446744073709551616) : Own w.heap.size (w.alloc (.cells #[.int .u64 v] 59)) .u64 59 (some ⟨w.heap.size, 0, none⟩) 1 1 (mag n) ∧ Below w.heap.size w (w.alloc (.cells #[.int .u64 v] 59)) := by
  subst hv; exact ⟨one_row w n h0 h1, (Below.refl _ _).alloc (Nat.le_refl _) _⟩

end Go.Proofs.YtiiefpnkpfliiaaGreatDoor

/- Walks: rootStart, root (short numbers). -/
namespace Go.Proofs.YtiiefpnkpfliiaaGreatDoor
open Go.RowKit Go.Shelf
set_option linter.unusedVariables false
set_option linter.unusedSimpArgs false

/-- how many bits a number has -/
theorem row_bits {a la : Nat} (h0 : 0 < a) (hl : la = (mag a).length) : ∃ l : Nat, rowBits la (dig (mag a) (la - 1)) = (l : Int) ∧ 1 ≤ l ∧ l ≤ 64 * la ∧ 2 ^ (l - 1) ≤ a ∧ a < 2 ^ l := by
  have hp : 0 < la := by rw [hl]; exact mag_len_pos.2 h0
  obtain ⟨k, rfl⟩ : ∃ k, la = k + 1 := ⟨la - 1, by omega⟩
  rw [Nat.add_sub_cancel]
  have hv := mag_val a
  rw [← V_all 18446744073709551616 hl, V_succ, Nat.zero_add] at hv
  have h1 := V_nonneg (q := 18446744073709551616) (by decide) (mag_wd a) 0 k
  have h2 := V_lt (q := 18446744073709551616) (by decide) (mag_wd a) 0 k
  have hz := (mag_wd a).dig (by decide) k
  have hne : mag a ≠ [] := fun e => by rw [e] at hl; simp at hl
  have htop : dig (mag a) k ≠ 0 := by
    have h1 := mag_can a
    obtain ⟨r, t, ht⟩ := snoc_of hne
    rw [ht] at h1 hl ⊢
    have : k = r.length := by simp at hl; omega
    rw [this]; simp [dig]; exact can_snoc.1 h1
  obtain ⟨z, hze⟩ : ∃ z, dig (mag a) k = z := ⟨_, rfl⟩
  obtain ⟨v, hve⟩ : ∃ v, V 18446744073709551616 (mag a) 0 k = v := ⟨_, rfl⟩
  rw [hze] at hv hz htop; rw [hve] at hv h1 h2
  rw [hze]
  obtain ⟨z, rfl⟩ := Int.eq_ofNat_of_zero_le hz.1
  obtain ⟨v, rfl⟩ := Int.eq_ofNat_of_zero_le h1
  obtain ⟨b1, b2, b3⟩ := bitLen_bounds (y := z) (by omega) (by omega)
  have b4 : Lib.bitLen z ≤ 64 := Lib.bitLen_le z 64 (by omega) (by omega)
  unfold rowBits
  rw [if_neg (by omega), Int.toNat_natCast]
  obtain ⟨B, hB⟩ : ∃ B, Lib.bitLen z = B := ⟨_, rfl⟩
  rw [hB] at b1 b2 b3 b4 ⊢
  have hq : (18446744073709551616 : Int) ^ k = ((2 ^ (64 * k) : Nat) : Int) := by rw [Int.natCast_pow, show (18446744073709551616 : Int) = 2 ^ 64 from rfl, ← Int.pow_mul]; rfl
  rw [hq] at hv h2
  have hv' : a = v + 2 ^ (64 * k) * z := by
    have : (a : Int) = ((v + 2 ^ (64 * k) * z : Nat) : Int) := by rw [← hv, Int.natCast_add, Int.natCast_mul]
    exact Int.ofNat.inj this
  have h2' : v < 2 ^ (64 * k) := by omega
  refine ⟨64 * k + B, by omega, by omega, by omega, ?_, ?_⟩
  · rw [show 64 * k + B - 1 = 64 * k + (B - 1) by omega, Nat.pow_add]
    have := Nat.mul_le_mul_left (2 ^ (64 * k)) b2
    omega
  · rw [Nat.pow_add]
    have := Nat.mul_le_mul_left (2 ^ (64 * k)) (show z + 1 ≤ 2 ^ B from b3)
    rw [Nat.mul_add, Nat.mul_one] at this
    omega

theorem half_facts {l n : Nat} (hn : 2 ≤ n) (hl : 2 ≤ l) (h : l / n / 2 ≠ 0) : 1 ≤ n * (l / n / 2) ∧ n * (l / n / 2) ≤ l - 1 ∧ l / n / 2 ≤ l := by
  have h1 : n * (l / n / 2) * 2 ≤ l := by
    rw [Nat.mul_assoc]
    exact Nat.le_trans (Nat.mul_le_mul_left n (Nat.div_mul_le_self (l / n) 2)) (Nat.mul_div_le l n)
  have h2 : 1 * 1 ≤ n * (l / n / 2) := Nat.mul_le_mul (by omega) (Nat.pos_of_ne_zero h)
  have h3 : l / n / 2 ≤ l := Nat.le_trans (Nat.div_le_self _ _) (Nat.div_le_self _ _)
  omega

theorem root_le {x n t : Nat} (h : IsRoot x n t) (hn : 0 < n) : t ≤ x := by
  refine Nat.le_trans ?_ h.1
  rcases Nat.eq_zero_or_pos t with e | e
  · omega
  · have := Nat.pow_le_pow_right e (show 1 ≤ n from hn); rw [Nat.pow_one] at this; exact this
theorem root_len {a p n t l3 la : Nat} (h : IsRoot (a / 2 ^ p) n t) (h3 : l3 = (mag t).length) (ha : la = (mag a).length) (h40 : la < 40) (hn : 0 < n) : l3 < 40 := by
  have h1 := root_le h hn
  have h2 := mag_len_mono (Nat.le_trans h1 (Nat.div_le_self a (2 ^ p)))
  omega

end Go.Proofs.YtiiefpnkpfliiaaGreatDoor

/- Walks: root (short numbers). -/
namespace Go.Proofs.YtiiefpnkpfliiaaGreatDoor
open Go.RowKit Go.Shelf
set_option linter.unusedVariables false
set_option linter.unusedSimpArgs false

theorem row_unique {w : World} {ao : Option Addr} {l c s t : Nat} (h : RowAt w .u64 ao l c (mag s)) (k : RowAt w .u64 ao l c (mag t)) : s = t := by
  have e : mag s = mag t := by
    refine dig_ext (by rw [← h.hlen, ← k.hlen]) fun i hi => ?_
    rw [← h.hlen] at hi
    obtain ⟨b, o, rfl, _, h1⟩ := h.get (by omega)
    obtain ⟨b', o', e', _, h2⟩ := k.get (by omega)
    cases e'
    have := (h1 i hi).symm.trans (h2 i hi)
    simpa using this
  have h1 := mag_val s
  rw [e, mag_val] at h1
  exact (Int.ofNat.inj h1).symm
/-- there is a function that tells the number that lies at a slice -/
theorem numAt_is : ∃ numAt : Value → World → Nat, Hid (∀ (w : World) (ao : Option Addr) (l c s : Nat), RowAt w .u64 ao l c (mag s) → numAt (.slice ao l c) w = s) := by
  classical
  refine ⟨fun v w => if h : ∃ s ao l c, v = .slice ao l c ∧ RowAt w .u64 ao l c (mag s) then h.choose else 0, ?_⟩
  show ∀ (w : World) (ao : Option Addr) (l c s : Nat), RowAt w .u64 ao l c (mag s) → _
  intro w ao l c s h
  have hx : ∃ s ao' l' c', Value.slice ao l c = .slice ao' l' c' ∧ RowAt w .u64 ao' l' c' (mag s) := ⟨s, ao, l, c, rfl, h⟩
  show (if h : ∃ s ao' l' c', Value.slice ao l c = .slice ao' l' c' ∧ RowAt w .u64 ao' l' c' (mag s) then h.choose else 0) = s
  rw [dif_pos hx]
  obtain ⟨ao', l', c', e, hr⟩ := hx.choose_spec
  cases e
  exact row_unique hr h
/-- the loop's state -/
def RootAt (w wr : World) (v : Value) (a n s : Nat) : Prop :=
  ∃ ao l c, v = .slice ao l c ∧ Own w.heap.size wr .u64 59 ao l c (mag s) ∧ Below w.heap.size w wr ∧ 0 < s ∧ a < (s + 1) ^ n ∧ s ^ n ≤ 2 ^ n * a

end Go.Proofs.YtiiefpnkpfliiaaGreatDoor
