/-
  Plain mathematics: a row added to, or taken from, part of a row, digit by digit.
-/
import Derived.Test.YtnodcfeimiimbaaDoorBlk
namespace Go.Proofs.YtnodcfeimiimbaaDoor
set_option linter.unusedVariables false
set_option linter.unusedSimpArgs false

/-- the number of the k digits from place off on -/
def V (q : Int) (L : List Int) (off k : Nat) : Int := val q ((L.drop off).take k)

theorem val_take_dig (q : Int) (zs : List Int) (k : Nat) : val q (zs.take (k + 1)) = val q (zs.take k) + q ^ k * dig zs k := by
  by_cases h : k < zs.length
  · exact val_take_succ q h
  · rw [List.take_of_length_le (by omega), List.take_of_length_le (by omega)]
    have : dig zs k = 0 := by simp [dig, List.getElem?_eq_none (Nat.le_of_not_lt h)]
    rw [this]; simp
theorem dig_drop (L : List Int) (off k : Nat) : dig (L.drop off) k = dig L (off + k) := by simp [dig]
theorem V_zero (q : Int) (L : List Int) (off : Nat) : V q L off 0 = 0 := by simp [V, val]
theorem V_succ (q : Int) (L : List Int) (off k : Nat) : V q L off (k + 1) = V q L off k + q ^ k * dig L (off + k) := by
  unfold V; rw [val_take_dig, dig_drop]
theorem V_congr {q : Int} {L L' : List Int} {off off' k : Nat} (h : ∀ j, j < k → dig L (off + j) = dig L' (off' + j)) : V q L off k = V q L' off' k := by
  induction k with
  | zero => simp [V_zero]
  | succ k ih => rw [V_succ, V_succ, ih (fun j hj => h j (by omega)), h k (by omega)]
theorem V_split (q : Int) (L : List Int) (off k m : Nat) : V q L off (k + m) = V q L off k + q ^ k * V q L (off + k) m := by
  induction m with
  | zero => simp [V_zero]
  | succ m ih =>
    rw [← Nat.add_assoc, V_succ, ih, V_succ, Int.mul_add, Nat.add_assoc off k m, Int.pow_add]
    grind
theorem V_all (q : Int) {L : List Int} {n : Nat} (h : n = L.length) : V q L 0 n = val q L := by subst h; simp [V]
theorem V_take (q : Int) (L : List Int) (n : Nat) : V q L 0 n = val q (L.take n) := by simp [V]
theorem V_nonneg {q : Int} (hq : 0 < q) {L : List Int} (h : Wd q L) (off k : Nat) : 0 ≤ V q L off k := val_nonneg hq ((h.drop off).take k)
theorem V_lt {q : Int} (hq : 1 < q) {L : List Int} (h : Wd q L) (off k : Nat) : V q L off k < q ^ k := by
  have h1 := val_lt (by omega) ((h.drop off).take k)
  have h2 : q ^ ((L.drop off).take k).length ≤ q ^ k := pow_mono' (by omega) (by simp; omega)
  unfold V; omega
theorem dig_set {L : List Int} {i : Nat} {z : Int} (j : Nat) (hi : i < L.length) : dig (L.set i z) j = if j = i then z else dig L j := by
  unfold dig
  by_cases h : j = i
  · subst h; simp [hi]
  · simp [h, List.getElem?_set_ne (Ne.symm h)]
theorem Wd.set {q : Int} {L : List Int} (h : Wd q L) (i : Nat) {z : Int} (hz : 0 ≤ z ∧ z < q) : Wd q (L.set i z) := fun x hx => by
  rcases List.mem_or_eq_of_mem_set hx with e | e
  · exact h x e
  · exact e ▸ hz
theorem Wd.dig {q : Int} (hq : 0 < q) {L : List Int} (h : Wd q L) (j : Nat) : 0 ≤ dig L j ∧ dig L j < q := h.getD hq j

/-- s = 1: the first k digits of ys were added to those of L from off on, c is carried; s = -1: they were taken away, c is borrowed -/
structure St (s q : Int) (L ys : List Int) (off k : Nat) (c : Int) (Lk : List Int) : Prop where
  len : Lk.length = L.length
  out : ∀ j, j < off ∨ off + k ≤ j → dig Lk j = dig L j
  wd : Wd q Lk
  c0 : 0 ≤ c
  c1 : c ≤ 1
  eq : V q Lk off k + s * (c * q ^ k) = V q L off k + s * val q (ys.take k)

theorem St.start {s q : Int} {L ys : List Int} (off : Nat) (h : Wd q L) : St s q L ys off 0 0 L :=
  ⟨rfl, fun _ _ => rfl, h, Int.le_refl _, by decide, by simp [V_zero, val]⟩
theorem St.step {s q : Int} {L ys : List Int} {off k : Nat} {c : Int} {Lk : List Int} (h : St s q L ys off k c Lk) (hk : off + k < L.length) {d c' : Int} (hd : 0 ≤ d ∧ d < q) (hc : 0 ≤ c' ∧ c' ≤ 1)
    (he : d + s * (c' * q) = dig L (off + k) + s * (dig ys k + c)) : St s q L ys off (k + 1) c' (Lk.set (off + k) d) := by
  have hl : off + k < Lk.length := by rw [h.len]; exact hk
  refine ⟨by simp [h.len], fun j hj => ?_, h.wd.set _ hd, hc.1, hc.2, ?_⟩
  · rw [dig_set _ hl, if_neg (by omega)]; exact h.out j (by omega)
  · have e1 : V q (Lk.set (off + k) d) off k = V q Lk off k := V_congr fun j hj => by rw [dig_set _ hl, if_neg (by omega)]
    rw [V_succ, V_succ, e1, dig_set _ hl, if_pos rfl, val_take_dig, Int.pow_succ]
    have h1 := h.eq
    have e2 : q ^ k * (d + s * (c' * q)) = q ^ k * (dig L (off + k) + s * (dig ys k + c)) := by rw [he]
    grind
theorem St.finish {s q : Int} {L ys : List Int} {off k : Nat} {c : Int} {Lk : List Int} (h : St s q L ys off k c Lk) {n : Nat} (hk : k ≤ n) (hy : ys.length ≤ k) (hc : k = n ∨ c = 0) : V q Lk off n + s * (c * q ^ n) = V q L off n + s * val q ys := by
  have h1 := h.eq
  rw [List.take_of_length_le hy] at h1
  obtain ⟨m, rfl⟩ : ∃ m, n = k + m := ⟨n - k, by omega⟩
  rw [V_split, V_split q L]
  have e : V q Lk (off + k) m = V q L (off + k) m := V_congr fun j hj => h.out _ (by omega)
  rw [e]
  rcases hc with hc | hc
  · have : m = 0 := by omega
    subst this; simp only [V_zero, Nat.add_zero]; grind
  · subst hc; simp only [Int.zero_mul, Int.mul_zero, Int.add_zero] at h1 ⊢; grind

end Go.Proofs.YtnodcfeimiimbaaDoor
