/-
  JA, JB (its first part: JB0).
-/
import Derived.Test.YthjkdnlbdhhmbaaGreatDoorPQ03
import Derived.Test.YthjkdnlbdhhmbaaGreatDoorPQ05
import Derived.Test.YthjkdnlbdhhmbaaGreatDoorPQ13
/- How many limbs coefficients have; polynomials in memory. -/
namespace Go.Proofs.YthjkdnlbdhhmbaaGreatDoor
open Go.RowKit
set_option linter.unusedVariables false
set_option linter.unusedSimpArgs false
/-- how many limbs -/
def lim (a : Int) : Nat := (mag a.natAbs).length
theorem lim_zero : lim 0 = 0 := rfl
theorem lim_add (a b : Int) : lim (a + b) ≤ lim a + lim b + 1 := add_len a b
theorem lim_mul (a b : Int) : lim (a * b) ≤ lim a + lim b := mul_len a b
theorem lim_neg (a : Int) : lim (-a) = lim a := by unfold lim; rw [Int.natAbs_neg]
theorem hor_digs (c a : Int) (s : List Int) (k : Nat) : dig (hor c a s) k = dig (a :: s) k + c * dig s k := by
  cases k with
  | zero => rw [hor_dig0]; simp [dig]
  | succ k => rw [hor_dig, dig_cons]
theorem lim_nil (k : Nat) : lim (dig [] k) = 0 := by simp [dig, lim_zero]
/-- all coefficients have at most L limbs -/
def Lim (L : Nat) (p : List Int) : Prop := ∀ t, lim (dig p t) ≤ L
theorem Lim.mono {L M : Nat} {p : List Int} (h : Lim L p) (hm : L ≤ M) : Lim M p := fun t => Nat.le_trans (h t) hm
theorem sh_lim {L C : Nat} {c : Int} {p : List Int} (hp : Lim L p) (hc : lim c ≤ C) : ∀ t, lim (dig (sh c p) t) + (C + 1) ≤ 2 ^ p.length * (L + C + 1) := by
  induction p with
  | nil => intro t; simp only [sh, lim_nil, List.length_nil, Nat.pow_zero]; omega
  | cons a q ih =>
    intro t
    have hq : Lim L q := fun t => by have := hp (t + 1); rwa [dig_cons] at this
    have h0 := ih hq
    have ha : lim a ≤ L := by have := hp 0; simpa [dig] using this
    have hS : lim (dig (sh c q) t) + (C + 1) ≤ 2 ^ q.length * (L + C + 1) := h0 t
    have hA : lim (dig (a :: sh c q) t) + (C + 1) ≤ 2 ^ q.length * (L + C + 1) := by
      cases t with
      | zero =>
        have h1 : 1 * (L + C + 1) ≤ 2 ^ q.length * (L + C + 1) := Nat.mul_le_mul_right _ (Nat.one_le_two_pow)
        have h2 : dig (a :: sh c q) 0 = a := by simp [dig]
        rw [h2]; omega
      | succ t => rw [dig_cons]; exact h0 t
    have e : 2 ^ (a :: q).length * (L + C + 1) = 2 ^ q.length * (L + C + 1) + 2 ^ q.length * (L + C + 1) := by
      rw [List.length_cons, Nat.pow_succ, Nat.mul_comm (2 ^ q.length) 2, Nat.mul_assoc]; omega
    rw [sh, hor_digs, e]
    have h1 := lim_add (dig (a :: sh c q) t) (c * dig (sh c q) t)
    have h2 := lim_mul c (dig (sh c q) t)
    omega
/-- shifted below, from place i on -/
def ShOut (p : List Int) (c : Int) (i : Nat) (l : List Int) : Prop := l.length = p.length ∧ ∀ t, t < p.length → dig l t = if t < i then dig p t else dig (sh c (p.drop i)) (t - i)
/-- under way: place i is taken in, up to place j -/
def ShSt (p : List Int) (c : Int) (i j : Nat) (l : List Int) : Prop := l.length = p.length ∧ ∀ t, t < p.length → dig l t = if t < i then dig p t else if t < j then dig (sh c (p.drop i)) (t - i) else dig (dig p i :: sh c (p.drop (i + 1))) (t - i)
theorem sh_drop {p : List Int} (c : Int) {i : Nat} (h : i < p.length) : sh c (p.drop i) = hor c (dig p i) (sh c (p.drop (i + 1))) := by
  rw [List.drop_eq_getElem_cons h]
  have : dig p i = p[i] := by simp [dig, h]
  rw [this]; rfl
theorem ShOut.start {p : List Int} (c : Int) (h : 0 < p.length) : ShOut p c (p.length - 1) p := by
  refine ⟨rfl, fun t ht => ?_⟩
  by_cases e : t < p.length - 1
  · rw [if_pos e]
  · rw [if_neg e, sh_drop c (show p.length - 1 < p.length by omega), show p.length - 1 + 1 = p.length by omega, List.drop_length]
    obtain rfl : t = p.length - 1 := by omega
    simp [sh, hor, dig]
theorem ShOut.st {p l : List Int} {c : Int} {i : Nat} (h : ShOut p c (i + 1) l) : ShSt p c i i l := by
  refine ⟨h.1, fun t ht => ?_⟩
  rw [h.2 t ht]
  by_cases e : t < i
  · rw [if_pos (by omega), if_pos e]
  · rw [if_neg e, if_neg e]
    by_cases e2 : t = i
    · subst e2; rw [if_pos (by omega)]; simp [dig]
    · rw [if_neg (by omega), show t - i = (t - (i + 1)) + 1 by omega, dig_cons]
theorem ShSt.step {p l : List Int} {c : Int} {i j : Nat} (h : ShSt p c i j l) (hij : i ≤ j) (hj : j + 1 < p.length) : ShSt p c i (j + 1) (l.set j (dig l j + c * dig l (j + 1))) := by
  refine ⟨by simpa using h.1, fun t ht => ?_⟩
  rw [pdig_set _ _ _ _ (by rw [h.1]; exact ht)]
  by_cases e : t = j
  · subst e
    rw [if_pos rfl, h.2 t ht, h.2 (t + 1) hj, if_neg (show ¬ t < i by omega), if_neg (show ¬ t < t by omega), if_neg (show ¬ t + 1 < i by omega), if_neg (show ¬ t + 1 < t by omega), if_neg (show ¬ t < i by omega), if_pos (show t < t + 1 by omega), sh_drop c (show i < p.length by omega), hor_digs, show t + 1 - i = (t - i) + 1 by omega, dig_cons]
  · rw [if_neg e, h.2 t ht]
    by_cases e1 : t < i
    · rw [if_pos e1, if_pos e1]
    · rw [if_neg e1, if_neg e1]
      by_cases e2 : t < j
      · rw [if_pos e2, if_pos (by omega)]
      · rw [if_neg e2, if_neg (by omega)]
theorem ShSt.out {p l : List Int} {c : Int} {i : Nat} (h : ShSt p c i (p.length - 1) l) (hi : i < p.length) : ShOut p c i l := by
  refine ⟨h.1, fun t ht => ?_⟩
  rw [h.2 t ht]
  by_cases e1 : t < i
  · rw [if_pos e1, if_pos e1]
  · rw [if_neg e1, if_neg e1]
    by_cases e2 : t < p.length - 1
    · rw [if_pos e2]
    · rw [if_neg e2, sh_drop c hi, hor_digs, dig_past (s := sh c (p.drop (i + 1))) (k := t - i) (by rw [sh_len]; simp; omega)]
      omega
theorem ShOut.done {p l : List Int} {c : Int} (h : ShOut p c 0 l) : l = sh c p :=
  dig_ext (by rw [h.1, sh_len]) fun t ht => by rw [h.2 t (by rw [← h.1]; exact ht), if_neg (by omega)]; simp
/-- what a shift meets on its way has at most K limbs -/
def ShLim (K : Nat) (c : Int) (p : List Int) : Prop := lim c ≤ K ∧ Lim K p ∧ ∀ i, Lim K (sh c (p.drop i))
theorem ShLim.of {L C N K : Nat} {c : Int} {p : List Int} (hp : Lim L p) (hc : lim c ≤ C) (hn : p.length ≤ N) (hk : 2 ^ N * (L + C + 1) ≤ K) : ShLim K c p := by
  have h0 : 1 * (L + C + 1) ≤ 2 ^ N * (L + C + 1) := Nat.mul_le_mul_right _ Nat.one_le_two_pow
  refine ⟨by omega, hp.mono (by omega), fun i t => ?_⟩
  have h1 := sh_lim (L := L) (C := C) (p := p.drop i) (fun t => by rw [dig_drop]; exact hp _) hc t
  have h2 : 2 ^ (p.drop i).length * (L + C + 1) ≤ 2 ^ N * (L + C + 1) := Nat.mul_le_mul_right _ (Nat.pow_le_pow_right (by decide) (by simp; omega))
  omega
theorem ShSt.lims {p l : List Int} {c : Int} {i j K : Nat} (h : ShSt p c i j l) (hK : ShLim K c p) (hij : i ≤ j) (hj : j + 1 < p.length) : lim (dig l j) ≤ K ∧ lim (dig l (j + 1)) ≤ K := by
  constructor
  · rw [h.2 j (by omega), if_neg (by omega), if_neg (by omega)]
    by_cases e : j = i
    · subst e; have := hK.2.1 j; simpa [dig] using this
    · rw [show j - i = (j - i - 1) + 1 by omega, dig_cons]; exact hK.2.2 _ _
  · rw [h.2 (j + 1) hj, if_neg (by omega), if_neg (by omega), show j + 1 - i = (j - i) + 1 by omega, dig_cons]
    exact hK.2.2 _ _
/-- its highest coefficient is not 0 -/
def Lead (p : List Int) : Prop := 0 < p.length → dig p (p.length - 1) ≠ 0
theorem mul_lead {p s : List Int} (hp : Lead p) (hs : Lead s) (h1 : 0 < p.length) (h2 : 0 < s.length) : Lead (mulL p s) := by
  intro _
  rw [mulL_len _ _ h2, show p.length + s.length - 1 - 1 = p.length + s.length - 2 by omega, mulL_lead _ _ h1 h2]
  exact Int.mul_ne_zero (hp h1) (hs h2)
theorem rev_dig (p : List Int) (t : Nat) (h : t < p.length) : dig p.reverse t = dig p (p.length - 1 - t) := by
  unfold dig; rw [List.getD_eq_getElem?_getD, List.getD_eq_getElem?_getD, List.getElem?_reverse h]
theorem rev_lim {K : Nat} {p : List Int} (h : Lim K p) : Lim K p.reverse := by
  intro t
  by_cases ht : t < p.length
  · rw [rev_dig _ _ ht]; exact h _
  · rw [dig_past (by simp; omega), lim_zero]; omega
theorem drop_lim {K i : Nat} {p : List Int} (h : Lim K p) : Lim K (p.drop i) := fun t => by rw [dig_drop]; exact h _
/-- turned round from both ends, up to place i -/
def RevSt (p : List Int) (i : Nat) (l : List Int) : Prop := l.length = p.length ∧ ∀ t, t < p.length → dig l t = if t < i ∨ p.length ≤ t + i then dig p (p.length - 1 - t) else dig p t
theorem RevSt.start (p : List Int) : RevSt p 0 p := ⟨rfl, fun t ht => by rw [if_neg (by omega)]⟩
theorem RevSt.step {p l : List Int} {i : Nat} (h : RevSt p i l) (hi : i + i + 1 < p.length) : RevSt p (i + 1) ((l.set i (dig l (p.length - 1 - i))).set (p.length - 1 - i) (dig l i)) := by
  refine ⟨by simpa using h.1, fun t ht => ?_⟩
  rw [pdig_set _ _ _ _ (by simp [h.1]; exact ht), pdig_set _ _ _ _ (by rw [h.1]; exact ht)]
  by_cases e : t = p.length - 1 - i
  · rw [if_pos e, h.2 i (by omega), if_neg (by omega), if_pos (by omega), e]; congr 1; omega
  · rw [if_neg e]
    by_cases e2 : t = i
    · rw [if_pos e2, h.2 _ (by omega), if_neg (by omega), if_pos (by omega), e2]
    · rw [if_neg e2, h.2 t ht]
      by_cases e3 : t < i ∨ p.length ≤ t + i
      · rw [if_pos e3, if_pos (by omega)]
      · rw [if_neg e3, if_neg (by omega)]
theorem RevSt.done {p l : List Int} {i : Nat} (h : RevSt p i l) (hi : p.length ≤ i + i + 1) : l = p.reverse :=
  dig_ext (by simp [h.1]) fun t ht => by
    rw [h.1] at ht
    rw [h.2 t ht, rev_dig _ _ ht]
    by_cases e : t < i ∨ p.length ≤ t + i
    · rw [if_pos e]
    · rw [if_neg e]; congr 1; omega
/-- turned: without the lowest noughts, from behind -/
def TurnOf (p q : List Int) : Prop := ∃ low, low ≤ p.length ∧ (∀ t, t < low → dig p t = 0) ∧ (low < p.length → dig p low ≠ 0) ∧ q = (p.drop low).reverse
theorem TurnOf.lead {p q : List Int} (h : TurnOf p q) : Lead q := by
  obtain ⟨low, h1, h2, h3, rfl⟩ := h
  intro h0
  simp only [List.length_reverse, List.length_drop] at h0 ⊢
  rw [rev_dig _ _ (by simp; omega), dig_drop]
  simp only [List.length_drop]
  rw [show low + (p.length - low - 1 - (p.length - low - 1)) = low by omega]
  exact h3 (by omega)
theorem TurnOf.len {p q : List Int} (h : TurnOf p q) : q.length ≤ p.length := by
  obtain ⟨low, h1, h2, h3, rfl⟩ := h
  simp
theorem TurnOf.lim {K : Nat} {p q : List Int} (h : TurnOf p q) (hK : Lim K p) : Lim K q := by
  obtain ⟨low, h1, h2, h3, rfl⟩ := h
  exact rev_lim (drop_lim hK)
theorem TurnOf.whole {p q : List Int} (h : TurnOf p q) (h0 : dig p 0 ≠ 0) : q = p.reverse := by
  obtain ⟨low, h1, h2, h3, rfl⟩ := h
  obtain rfl : low = 0 := by
    rcases Nat.eq_zero_or_pos low with e | e
    · exact e
    · exact absurd (h2 0 e) h0
  simp
end Go.Proofs.YthjkdnlbdhhmbaaGreatDoor
/- Polynomials in memory: a list of numbers, each a sign and a row of words; lists whose numbers may be none; a list of the call's own, that may be written. -/
namespace Go.Proofs.YthjkdnlbdhhmbaaGreatDoor
open Go.RowKit
set_option linter.unusedVariables false
set_option linter.unusedSimpArgs false
/-- a sign and a row of words lie at o in block b -/
def RawAt (w : World) (b o : Nat) (n : Bool) (zs : List Int) : Prop := ∃ ao l c, (w.cell? ⟨b, o, none⟩ = some (.bool n) ∧ w.cell? ⟨b, o + 1, none⟩ = some (.slice ao l c)) ∧ RowAt w .u64 ao l c zs ∧ Wd 18446744073709551616 zs
/-- a number lies at o in block b -/
def CoefAt (w : World) (b o : Nat) (v : Int) : Prop := ∃ n ao l c, (w.cell? ⟨b, o, none⟩ = some (.bool n) ∧ w.cell? ⟨b, o + 1, none⟩ = some (.slice ao l c)) ∧ IntAt w n ao l c v
theorem CoefAt.lt {w : World} {b o : Nat} {v : Int} (h : CoefAt w b o v) : b < w.heap.size := by
  obtain ⟨n, ao, l, c, ⟨h0, _⟩, _⟩ := h
  exact cell_lt h0
theorem RawAt.lt {w : World} {b o : Nat} {n : Bool} {zs : List Int} (h : RawAt w b o n zs) : b < w.heap.size := by
  obtain ⟨ao, l, c, ⟨h0, _⟩, _⟩ := h
  exact cell_lt h0
theorem CoefAt.later {w w' : World} {b o : Nat} {v : Int} (h : CoefAt w b o v) (hb : Below w.heap.size w w') : CoefAt w' b o v := by
  have hlt := h.lt
  obtain ⟨n, ao, l, c, ⟨h0, h1⟩, hi⟩ := h
  exact ⟨n, ao, l, c, ⟨(hb.cell (p := ⟨b, o, none⟩) hlt).trans h0, (hb.cell (p := ⟨b, o + 1, none⟩) hlt).trans h1⟩, hi.later hb⟩
theorem RawAt.later {w w' : World} {b o : Nat} {n : Bool} {zs : List Int} (h : RawAt w b o n zs) (hb : Below w.heap.size w w') : RawAt w' b o n zs := by
  have hlt := h.lt
  obtain ⟨ao, l, c, ⟨h0, h1⟩, hi, hw⟩ := h
  exact ⟨ao, l, c, ⟨(hb.cell (p := ⟨b, o, none⟩) hlt).trans h0, (hb.cell (p := ⟨b, o + 1, none⟩) hlt).trans h1⟩, hi.later hb, hw⟩
/-- a list of signs and rows -/
structure RawsAt (w : World) (ao : Option Addr) (len cap : Nat) (rs : List (Bool × List Int)) : Prop where
  hlen : len = rs.length
  hcap : len ≤ cap
  hnil : ao = none → cap = 0
  hat : len = 0 ∨ ∃ b off, ao = some ⟨b, off, none⟩ ∧ ∀ t, (ht : t < rs.length) → RawAt w b (off + t * 2) (rs[t]).1 (rs[t]).2
/-- a polynomial -/
structure PolyAt (w : World) (ao : Option Addr) (len cap : Nat) (p : List Int) : Prop where
  hlen : len = p.length
  hcap : len ≤ cap
  hnil : ao = none → cap = 0
  hat : len = 0 ∨ ∃ b off, ao = some ⟨b, off, none⟩ ∧ ∀ t, t < len → CoefAt w b (off + t * 2) (dig p t)
theorem PolyAt.get {w : World} {ao : Option Addr} {len cap : Nat} {p : List Int} (h : PolyAt w ao len cap p) (hp : 0 < len) :
    ∃ b off, ao = some ⟨b, off, none⟩ ∧ ∀ t, t < len → CoefAt w b (off + t * 2) (dig p t) := by
  rcases h.hat with h | h
  · omega
  · exact h
theorem RawsAt.get {w : World} {ao : Option Addr} {len cap : Nat} {rs : List (Bool × List Int)} (h : RawsAt w ao len cap rs) (hp : 0 < len) :
    ∃ b off, ao = some ⟨b, off, none⟩ ∧ ∀ t, (ht : t < rs.length) → RawAt w b (off + t * 2) (rs[t]).1 (rs[t]).2 := by
  rcases h.hat with h | h
  · omega
  · exact h
theorem PolyAt.later {w w' : World} {ao : Option Addr} {len cap : Nat} {p : List Int} (h : PolyAt w ao len cap p) (hb : Below w.heap.size w w') : PolyAt w' ao len cap p := by
  refine ⟨h.hlen, h.hcap, h.hnil, ?_⟩
  rcases h.hat with h0 | ⟨b, off, h1, h2⟩
  · exact Or.inl h0
  · exact Or.inr ⟨b, off, h1, fun t ht => (h2 t ht).later hb⟩
theorem RawsAt.later {w w' : World} {ao : Option Addr} {len cap : Nat} {rs : List (Bool × List Int)} (h : RawsAt w ao len cap rs) (hb : Below w.heap.size w w') : RawsAt w' ao len cap rs := by
  refine ⟨h.hlen, h.hcap, h.hnil, ?_⟩
  rcases h.hat with h0 | ⟨b, off, h1, h2⟩
  · exact Or.inl h0
  · exact Or.inr ⟨b, off, h1, fun t ht => (h2 t ht).later hb⟩
theorem PolyAt.nilPoly (w : World) : PolyAt w none 0 0 [] := ⟨rfl, Nat.le_refl _, fun _ => rfl, Or.inl rfl⟩
theorem PolyAt.take {w : World} {ao : Option Addr} {len cap : Nat} {p : List Int} (h : PolyAt w ao len cap p) {n : Nat} (hn : n ≤ len) : PolyAt w ao n cap (p.take n) := by
  refine ⟨?_, Nat.le_trans hn h.hcap, h.hnil, ?_⟩
  · have := h.hlen; simp; omega
  · rcases h.hat with h0 | ⟨b, off, h1, h2⟩
    · exact Or.inl (by omega)
    · exact Or.inr ⟨b, off, h1, fun t ht => by rw [dig_take ht]; exact h2 t (by omega)⟩
/-- its length tells how many limbs -/
theorem IntAt.lim {w : World} {n : Bool} {ao : Option Addr} {l c : Nat} {v : Int} (h : IntAt w n ao l c v) : l = lim v := h.row.hlen
/-- the numbers of a list, if all are -/
theorem polys_of_raws {w : World} {ao : Option Addr} {len cap : Nat} {rs : List (Bool × List Int)} (h : RawsAt w ao len cap rs) (hm : ∀ r ∈ rs, mayB r.1 r.2 = true) : ∃ p, PolyAt w ao len cap p := by
  rcases Nat.eq_zero_or_pos len with h0 | h0
  · subst h0
    exact ⟨[], rfl, h.hcap, h.hnil, Or.inl rfl⟩
  · obtain ⟨b, off, h1, h2⟩ := h.get h0
    have hv : ∀ t, ∃ v, (ht : t < rs.length) → CoefAt w b (off + t * 2) v := by
      intro t
      by_cases ht : t < rs.length
      · obtain ⟨ao', l, c, hc, hr, hw⟩ := h2 t ht
        obtain ⟨v, hi, _⟩ := int_of_may hr hw (hm _ (List.getElem_mem ht))
        exact ⟨v, fun _ => ⟨_, ao', l, c, hc, hi⟩⟩
      · exact ⟨0, fun h => absurd h ht⟩
    refine ⟨(List.range len).map fun t => Classical.choose (hv t), by simp, h.hcap, h.hnil, Or.inr ⟨b, off, h1, fun t ht => ?_⟩⟩
    have e : dig ((List.range len).map fun t => Classical.choose (hv t)) t = Classical.choose (hv t) := by
      unfold dig
      rw [List.getD_eq_getElem?_getD, List.getElem?_map, List.getElem?_range ht]; rfl
    rw [e]
    exact Classical.choose_spec (hv t) (by rw [← h.hlen]; exact ht)
/-- a list of numbers of the call's own, that may be written -/
structure PBlk (w : World) (g : Nat) (p : List Int) : Prop where
  soft : ∀ j, w.frozen? ⟨g, j, none⟩ = false
  coef : ∀ t, t < p.length → CoefAt w g (t * 2) (dig p t)
theorem PBlk.poly {w : World} {g len : Nat} {p : List Int} (h : PBlk w g p) (hl : len = p.length) : PolyAt w (some ⟨g, 0, none⟩) len len p :=
  ⟨hl, Nat.le_refl _, fun e => (by cases e), Or.inr ⟨g, 0, rfl, fun t ht => by rw [Nat.zero_add]; exact h.coef t (by omega)⟩⟩
theorem PBlk.later {w w' : World} {g : Nat} {p : List Int} (h : PBlk w g p) (hb : Below w.heap.size w w') (hg : g < w.heap.size) : PBlk w' g p :=
  ⟨fun j => (hb.frozen (p := ⟨g, j, none⟩) hg).trans (h.soft j), fun t ht => (h.coef t ht).later hb⟩
theorem IntAt.cellKept {w : World} {n : Bool} {ao : Option Addr} {l c r j : Nat} {v : Int} {u : Value} (h : IntAt w n ao l c v) (hv : w.cell? ⟨r, j, none⟩ = some u) (hn : ∀ z, u ≠ .int .u64 z) (x : Value) : IntAt (w.setCell ⟨r, j, none⟩ x) n ao l c v := by
  refine ⟨h.sg, h.row.hlen, h.row.hcap, h.row.hnil, ?_⟩
  rcases h.row.hat with h0 | ⟨b, off, h1, hlt, h2⟩
  · exact Or.inl h0
  · refine Or.inr ⟨b, off, h1, by simpa [World.setCell] using hlt, fun t ht => ?_⟩
    have hc := h2 t ht
    rw [setCell_ne]
    · exact hc
    · rintro ⟨e1, e2⟩
      simp only at e1 e2
      rw [e1, e2, hv] at hc
      exact hn _ (Option.some.inj hc)
theorem soft_far {w : World} {r j b o : Nat} {v : Value} : (w.setCell ⟨r, j, none⟩ v).frozen? ⟨b, o, none⟩ = w.frozen? ⟨b, o, none⟩ := by simp [go_sem]
/-- a number put into the list -/
theorem PBlk.put {w : World} {g t l c : Nat} {n : Bool} {ao : Option Addr} {p : List Int} {v : Int} (h : PBlk w g p) (ht : t < p.length) (hi : IntAt w n ao l c v) : PBlk ((w.setCell ⟨g, t * 2, none⟩ (.bool n)).setCell ⟨g, t * 2 + 1, none⟩ (.slice ao l c)) g (p.set t v) := by
  obtain ⟨n0, ao0, l0, c0, ⟨e0, e1⟩, _⟩ := h.coef t ht
  have e1' : (w.setCell ⟨g, t * 2, none⟩ (.bool n)).cell? ⟨g, t * 2 + 1, none⟩ = some (.slice ao0 l0 c0) := by simp [go_sem, e0, e1]
  have keep : ∀ {m : Bool} {bo : Option Addr} {k d : Nat} {u : Int}, IntAt w m bo k d u → IntAt ((w.setCell ⟨g, t * 2, none⟩ (.bool n)).setCell ⟨g, t * 2 + 1, none⟩ (.slice ao l c)) m bo k d u :=
    fun h => (h.cellKept e0 (fun z e => by cases e) _).cellKept e1' (fun z e => by cases e) _
  refine ⟨fun j => by rw [soft_far, soft_far]; exact h.soft j, fun s hs => ?_⟩
  rw [List.length_set] at hs
  rw [pdig_set _ _ _ _ hs]
  by_cases e : s = t
  · subst e
    rw [if_pos rfl]
    exact ⟨n, ao, l, c, ⟨by simp [go_sem, e0, e1], by simp [go_sem, e0, e1]⟩, keep hi⟩
  · rw [if_neg e]
    obtain ⟨m, bo, k, d, ⟨q0, q1⟩, hj⟩ := h.coef s hs
    exact ⟨m, bo, k, d, ⟨by rw [setCell_ne (by rintro ⟨_, h⟩; simp only at h; omega), setCell_ne (by rintro ⟨_, h⟩; simp only at h; omega)]; exact q0, by rw [setCell_ne (by rintro ⟨_, h⟩; simp only at h; omega), setCell_ne (by rintro ⟨_, h⟩; simp only at h; omega)]; exact q1⟩, keep hj⟩
/-- a polynomial, in new memory: what a call hands back -/
def NewPoly (w w' : World) (e : Ending) (p : List Int) : Prop := ∃ ao len cap, e = .returned (.slice ao len cap) ∧ PolyAt w' ao len cap p ∧ Below w.heap.size w w'
end Go.Proofs.YthjkdnlbdhhmbaaGreatDoor
/-
  Rationals in plain: what sums, products, quotients are made of; lengths. Rationals in memory.
-/
namespace Go.Proofs.YthjkdnlbdhhmbaaGreatDoor
open Go.RowKit
set_option linter.unusedVariables false
set_option linter.unusedSimpArgs false
theorem rmake_parts {n : Int} {d : Nat} (h : d ≠ 0) : (Rat.normalize n d h).num = n / ((n.natAbs.gcd d : Nat) : Int) ∧ (Rat.normalize n d h).den = d / n.natAbs.gcd d := by
  rw [Rat.normalize_eq]; exact ⟨rfl, rfl⟩
theorem radd_mk (a b : Rat) (h : a.den / a.den.gcd b.den * b.den ≠ 0) : a + b = Rat.normalize (a.num * ((b.den / a.den.gcd b.den : Nat) : Int) + b.num * ((a.den / a.den.gcd b.den : Nat) : Int)) (a.den / a.den.gcd b.den * b.den) h := by
  rw [Rat.add_def, Rat.normalize_eq_iff]
  obtain ⟨x, hx⟩ := Nat.gcd_dvd_left a.den b.den
  obtain ⟨y, hy⟩ := Nat.gcd_dvd_right a.den b.den
  have hg : 0 < a.den.gcd b.den := Nat.gcd_pos_of_pos_left _ a.den_pos
  generalize hG : a.den.gcd b.den = g at *
  have e1 : a.den / g = x := by rw [hx]; exact Nat.mul_div_cancel_left _ hg
  have e2 : b.den / g = y := by rw [hy]; exact Nat.mul_div_cancel_left _ hg
  rw [e1, e2, hx, hy]
  simp only [Int.natCast_mul]
  grind
theorem radd_parts (a b : Rat) (n : Int) (hn : n = a.num * ((b.den / a.den.gcd b.den : Nat) : Int) + b.num * ((a.den / a.den.gcd b.den : Nat) : Int)) :
    (a + b).num = n / ((n.natAbs.gcd (a.den.gcd b.den) : Nat) : Int) ∧ (a + b).den = a.den / a.den.gcd b.den * (b.den / n.natAbs.gcd (a.den.gcd b.den)) := by
  have hg : 0 < a.den.gcd b.den := Nat.gcd_pos_of_pos_left _ a.den_pos
  have h : a.den / a.den.gcd b.den * b.den ≠ 0 := by
    have h1 : 0 < a.den / a.den.gcd b.den := Nat.div_pos (Nat.gcd_le_left _ a.den_pos) hg
    exact Nat.ne_of_gt (Nat.mul_pos h1 b.den_pos)
  have aux := Rat.add.aux a b rfl rfl rfl
  simp only at aux
  obtain ⟨m1, m2⟩ := rmake_parts (n := a.num * ((b.den / a.den.gcd b.den : Nat) : Int) + b.num * ((a.den / a.den.gcd b.den : Nat) : Int)) h
  rw [← radd_mk a b h, ← aux, ← hn] at m1 m2
  refine ⟨m1, ?_⟩
  rw [m2]
  exact Nat.mul_div_assoc _ (Nat.dvd_trans (Nat.gcd_dvd_right _ _) (Nat.gcd_dvd_right _ _))
/-- numerator and denominator have at most k limbs -/
def Sz (r : Rat) (k : Nat) : Prop := (mag r.num.natAbs).length ≤ k ∧ (mag r.den).length ≤ k
theorem Sz.mono {r : Rat} {k m : Nat} (h : Sz r k) (hk : k ≤ m) : Sz r m := ⟨Nat.le_trans h.1 hk, Nat.le_trans h.2 hk⟩
theorem dvd_len {a b : Nat} (h : a ∣ b) (hb : 0 < b) : (mag a).length ≤ (mag b).length := mag_len_mono (Nat.le_of_dvd hb h)
theorem len_zero : (mag 0).length = 0 := by decide
theorem div_len (a b : Nat) : (mag (a / b)).length ≤ (mag a).length := mag_len_mono (Nat.div_le_self a b)
theorem idiv_abs {n : Int} {d : Nat} (h : (d : Int) ∣ n) : (n / (d : Int)).natAbs = n.natAbs / d := by
  rw [Int.natAbs_ediv_of_dvd h]; rfl
theorem idiv_len {n : Int} {d : Nat} (h : (d : Int) ∣ n) : (mag (n / (d : Int)).natAbs).length ≤ (mag n.natAbs).length := by
  rw [idiv_abs h]; exact div_len _ _
theorem gcd_dvd_abs (n : Int) (d : Nat) : ((n.natAbs.gcd d : Nat) : Int) ∣ n := Int.ofNat_dvd_left.2 (Nat.gcd_dvd_left _ _)
theorem Sz.make {n : Int} {d k : Nat} (h : d ≠ 0) (h1 : (mag n.natAbs).length ≤ k) (h2 : (mag d).length ≤ k) : Sz (Rat.normalize n d h) k := by
  obtain ⟨e1, e2⟩ := rmake_parts (n := n) h
  exact ⟨by rw [e1]; exact Nat.le_trans (idiv_len (gcd_dvd_abs _ _)) h1, by rw [e2]; exact Nat.le_trans (div_len _ _) h2⟩
theorem Sz.neg {a : Rat} {i : Nat} (ha : Sz a i) : Sz (-a) i := ⟨by rw [Rat.neg_num, Int.natAbs_neg]; exact ha.1, by rw [Rat.neg_den]; exact ha.2⟩
theorem Sz.add {a b : Rat} {i j : Nat} (ha : Sz a i) (hb : Sz b j) : Sz (a + b) (2 * i + 2 * j + 1) := by
  rw [Rat.add_def]
  refine Sz.make _ ?_ ?_
  · have h1 := add_len (a.num * (b.den : Int)) (b.num * (a.den : Int))
    have h2 := mul_len a.num (b.den : Int)
    have h3 := mul_len b.num (a.den : Int)
    rw [Int.natAbs_natCast] at h2 h3
    have := ha.1; have := ha.2; have := hb.1; have := hb.2; omega
  · have := mag_len_mul a.den b.den; have := ha.2; have := hb.2; omega
theorem row_int {w : World} {ao : Option Addr} {l c n : Nat} (h : RowAt w .u64 ao l c (mag n)) : IntAt w false ao l c (n : Int) := ⟨by simp [sgB], h⟩
/-- a rational in memory -/
structure RatAt (w : World) (neg : Bool) (ao : Option Addr) (l c : Nat) (bo : Option Addr) (lb cb : Nat) (r : Rat) : Prop where
  num : IntAt w neg ao l c r.num
  den : RowAt w .u64 bo lb cb (mag r.den)
theorem RatAt.later {w w' : World} {neg : Bool} {ao bo : Option Addr} {l c lb cb : Nat} {r : Rat} (h : RatAt w neg ao l c bo lb cb r) (hb : Below w.heap.size w w') : RatAt w' neg ao l c bo lb cb r := ⟨h.num.later hb, h.den.later hb⟩
theorem RatAt.len {w : World} {neg : Bool} {ao bo : Option Addr} {l c lb cb k : Nat} {r : Rat} (h : RatAt w neg ao l c bo lb cb r) (hs : Sz r k) : l ≤ k ∧ lb ≤ k := ⟨by rw [h.num.row.hlen]; exact hs.1, by rw [h.den.hlen]; exact hs.2⟩
/-- a rational, in memory of the call's own: what a call hands back -/
def NewRat (w w' : World) (e : Ending) (r : Rat) : Prop :=
  ∃ neg ao l c bo lb cb, e = .returned (.agg #[.bool neg, .slice ao l c, .slice bo lb cb]) ∧ neg = sgB r.num ∧ Own w.heap.size w' .u64 60 ao l c (mag r.num.natAbs) ∧ Own w.heap.size w' .u64 60 bo lb cb (mag r.den) ∧ Parted ao bo ∧ Below w.heap.size w w'
/-- a rational and no error -/
def NewRatErr (w w' : World) (e : Ending) (r : Rat) : Prop :=
  ∃ neg ao l c bo lb cb, e = .returned (.tuple #[.agg #[.bool neg, .slice ao l c, .slice bo lb cb], .int .i64 0]) ∧ neg = sgB r.num ∧ Own w.heap.size w' .u64 60 ao l c (mag r.num.natAbs) ∧ Own w.heap.size w' .u64 60 bo lb cb (mag r.den) ∧ Parted ao bo ∧ Below w.heap.size w w'
/-- cells of a variable -/
def Bx (W : World) (r : Nat) (vs : List Value) : Prop := (∀ j v, vs[j]? = some v → W.cell? ⟨r, j, none⟩ = some v) ∧ (∀ j, W.frozen? ⟨r, j, none⟩ = false)
theorem Bx.later {W w' : World} {B r : Nat} {vs : List Value} (h : Bx W r vs) (hb : Below B W w') (hr : r < B) : Bx w' r vs :=
  ⟨fun j v hj => (hb.cell (p := ⟨r, j, none⟩) hr).trans (h.1 j v hj), fun j => (hb.frozen (p := ⟨r, j, none⟩) hr).trans (h.2 j)⟩
end Go.Proofs.YthjkdnlbdhhmbaaGreatDoor
/-
  Variables of any number of cells: what lies in them, what is stored into them.
-/
namespace Go.Proofs.YthjkdnlbdhhmbaaGreatDoor
open Go.RowKit
set_option linter.unusedVariables false
set_option linter.unusedSimpArgs false
theorem cell_off {w : World} {r j b o : Nat} {v : Value} (h : b ≠ r) : (w.setCell ⟨r, j, none⟩ v).cell? ⟨b, o, none⟩ = w.cell? ⟨b, o, none⟩ := setCell_ne (fun e => h e.1)
theorem frozen_off {w : World} {r j b o : Nat} {v : Value} : (w.setCell ⟨r, j, none⟩ v).frozen? ⟨b, o, none⟩ = w.frozen? ⟨b, o, none⟩ := by simp [go_sem]
/-- values stored into cells of block r, from j on -/
def putl (w : World) (r : Nat) : Nat → List Value → World
  | _, [] => w
  | j, v :: vs => putl (w.setCell ⟨r, j, none⟩ v) r (j + 1) vs
theorem putl_off {r b o : Nat} (h : b ≠ r) : ∀ (vs : List Value) (j : Nat) (w : World), (putl w r j vs).cell? ⟨b, o, none⟩ = w.cell? ⟨b, o, none⟩
  | [], _, _ => rfl
  | v :: vs, j, w => (putl_off h vs (j + 1) _).trans (cell_off h)
theorem putl_low {r o : Nat} : ∀ (vs : List Value) (j : Nat) (w : World), o < j → (putl w r j vs).cell? ⟨r, o, none⟩ = w.cell? ⟨r, o, none⟩
  | [], _, _, _ => rfl
  | v :: vs, j, w, h => (putl_low vs (j + 1) _ (by omega)).trans (setCell_ne (fun e => by have := e.2; dsimp only at this; omega))
theorem putl_high {r o : Nat} : ∀ (vs : List Value) (j : Nat) (w : World), j + vs.length ≤ o → (putl w r j vs).cell? ⟨r, o, none⟩ = w.cell? ⟨r, o, none⟩
  | [], _, _, _ => rfl
  | v :: vs, j, w, h => (putl_high vs (j + 1) _ (by simp at h; omega)).trans (setCell_ne (fun e => by have := e.2; dsimp only at this; simp at h; omega))
theorem putl_frozen {r b o : Nat} : ∀ (vs : List Value) (j : Nat) (w : World), (putl w r j vs).frozen? ⟨b, o, none⟩ = w.frozen? ⟨b, o, none⟩
  | [], _, _ => rfl
  | v :: vs, j, w => (putl_frozen vs (j + 1) _).trans frozen_off
theorem putl_size {r : Nat} : ∀ (vs : List Value) (j : Nat) (w : World), (putl w r j vs).heap.size = w.heap.size
  | [], _, _ => rfl
  | v :: vs, j, w => (putl_size vs (j + 1) _).trans (by simp [World.setCell])
theorem set_hit {w : World} {r j : Nat} {x v : Value} (h : w.cell? ⟨r, j, none⟩ = some x) : (w.setCell ⟨r, j, none⟩ v).cell? ⟨r, j, none⟩ = some v := by simp [go_sem, h]
theorem putl_at {r : Nat} : ∀ (ws vs : List Value) (j : Nat) (w : World), ws.length = vs.length → (∀ i x, vs[i]? = some x → w.cell? ⟨r, j + i, none⟩ = some x) → ∀ i v, ws[i]? = some v → (putl w r j ws).cell? ⟨r, j + i, none⟩ = some v
  | [], _, _, _, _, _, i, v, h => by simp at h
  | u :: ws, [], _, _, hl, _, _, _, _ => by simp at hl
  | u :: ws, x :: vs, j, w, hl, hc, 0, v, h => by
    have h0 : u = v := by simpa using h
    subst h0
    exact (putl_low ws (j + 1) _ (by omega)).trans (set_hit (hc 0 x rfl))
  | u :: ws, x :: vs, j, w, hl, hc, i + 1, v, h => by
    have h1 := putl_at ws vs (j + 1) (w.setCell ⟨r, j, none⟩ u) (by simpa using hl) (fun i' x' h' => (setCell_ne (fun e => by have := e.2; dsimp only at this; omega)).trans ((by rw [show j + 1 + i' = j + (i' + 1) by omega]; exact hc (i' + 1) x' (by simpa using h')))) i v (by simpa using h)
    rw [show j + 1 + i = j + (i + 1) by omega] at h1
    exact h1
theorem Bx.put {w : World} {r : Nat} {ws vs : List Value} (h : Bx w r vs) (hl : ws.length = vs.length) : Bx (putl w r 0 ws) r ws :=
  ⟨fun i v hi => by have := putl_at ws vs 0 w hl (fun i' x h' => by rw [Nat.zero_add]; exact h.1 i' x h') i v hi; rwa [Nat.zero_add] at this, fun j => (putl_frozen ws 0 w).trans (h.2 j)⟩
theorem Bx.off {w : World} {r b : Nat} {ws vs : List Value} (h : Bx w b vs) (hb : b ≠ r) (j : Nat) : Bx (putl w r j ws) b vs :=
  ⟨fun i v hi => (putl_off hb ws j w).trans (h.1 i v hi), fun i => (putl_frozen ws j w).trans (h.2 i)⟩
theorem Bx.lt {w : World} {r : Nat} {v : Value} {vs : List Value} (h : Bx w r (v :: vs)) : r < w.heap.size := cell_lt (h.1 0 v rfl)
theorem Bx.new (w : World) (vs : List Value) (t : TypeId) : Bx (w.alloc (.cells vs.toArray t)) w.heap.size vs :=
  ⟨fun j v h => by simpa [go_sem] using h, fun j => by simp [go_sem]⟩
/-- no word lies in a variable's cells -/
def NoWord (vs : List Value) : Prop := ∀ v ∈ vs, ∀ z : Int, v ≠ .int .u64 z
theorem Bx.row {w : World} {r : Nat} {vs ws : List Value} {p : Option Addr} {m k : Nat} {zs : List Int} (h : Bx w r vs) (hn : NoWord vs) (hl : ws.length = vs.length) (hr : RowAt w .u64 p m k zs) : RowAt (putl w r 0 ws) .u64 p m k zs := by
  refine ⟨hr.hlen, hr.hcap, hr.hnil, ?_⟩
  rcases hr.hat with h0 | ⟨b, off, h1, hlt, h2⟩
  · exact Or.inl h0
  · refine Or.inr ⟨b, off, h1, by rw [putl_size]; exact hlt, fun t ht => ?_⟩
    have h3 := h2 t ht
    by_cases e : b = r
    · subst e
      by_cases h4 : off + t < vs.length
      · have h5 := h.1 (off + t) vs[off + t] (List.getElem?_eq_getElem h4)
        rw [h3] at h5
        exact absurd (Option.some.inj h5).symm (hn _ (List.getElem_mem h4) _)
      · rw [putl_high ws 0 w (by omega)]; exact h3
    · rw [putl_off e ws 0 w]; exact h3
/-- variables that a call makes as it begins -/
theorem enter1 (w : World) (xs : List Value) (s : TypeId) : ∃ W, W = w.alloc (.cells xs.toArray s) ∧ W.heap.size = w.heap.size + 1 ∧ Below w.heap.size w W ∧ Bx W w.heap.size xs :=
  ⟨_, rfl, by simp, (Below.refl _ _).alloc (Nat.le_refl _) _, Bx.new _ _ _⟩
theorem enter2 (w : World) (xs ys : List Value) (s t : TypeId) : ∃ W, W = (w.alloc (.cells xs.toArray s)).alloc (.cells ys.toArray t) ∧ W.heap.size = w.heap.size + 2 ∧ Below w.heap.size w W ∧ Bx W w.heap.size xs ∧ Bx W (w.heap.size + 1) ys := by
  obtain ⟨V, rfl, hs, hb, ha⟩ := enter1 w xs s
  refine ⟨_, rfl, by simp, hb.alloc hb.size _, ha.later ((Below.refl _ _).alloc (Nat.le_refl _) _) (by omega), ?_⟩
  have h := Bx.new (w.alloc (.cells xs.toArray s)) ys t
  rwa [hs] at h
end Go.Proofs.YthjkdnlbdhhmbaaGreatDoor
