/-
  JA, JB (its first part: JB0).
-/
import Derived.Test.YtnniipekcbjloaaDoorPU01
import Derived.Test.YtnniipekcbjloaaDoorPU03
import Derived.Test.YtnniipekcbjloaaDoorPU04
import Derived.Test.YtnniipekcbjloaaDoorPU16
import Derived.Test.YtnniipekcbjloaaDoorPU17
import Derived.Test.YtnniipekcbjloaaDoorPU18
import Derived.Test.YtnniipekcbjloaaDoorPU20
import Derived.Shelf.Spec.TrailingZeros
import Derived.Deep.DeepCutAuto
import Derived.Lib.SliceRun
/- How many limbs coefficients have; polynomials in memory. -/
namespace Go.Proofs.YtnniipekcbjloaaDoor
open Go.RowKit
set_option linter.unusedVariables false
set_option linter.unusedSimpArgs false
/-- how many limbs -/
def lim (a : Int) : Nat := (mag a.natAbs).length
theorem lim_zero : lim 0 = 0 := rfl
theorem lim_add (a b : Int) : lim (a + b) ≤ lim a + lim b + 1 := add_len a b
theorem lim_mul (a b : Int) : lim (a * b) ≤ lim a + lim b := mul_len a b
theorem hor_digs (c a : Int) (s : List Int) (k : Nat) : dig (hor c a s) k = dig (a :: s) k + c * dig s k := by
  cases k with
  | zero => rw [hor_dig0]; simp [dig]
  | succ k => rw [hor_dig, dig_cons]
theorem lim_nil (k : Nat) : lim (dig [] k) = 0 := by simp [dig, lim_zero]
/-- all coefficients have at most L limbs -/
def Lim (L : Nat) (p : List Int) : Prop := ∀ t, lim (dig p t) ≤ L
theorem Lim.mono {L M : Nat} {p : List Int} (h : Lim L p) (hm : L ≤ M) : Lim M p := fun t => Nat.le_trans (h t) hm
theorem sh_lim {L C : Nat} {c : Int} {p : List Int} (hp : Lim L p) (hc : lim c ≤ C) : ∀ t, lim (dig (sh c p) t) + (C + 1) ≤ 2 ^ p.length * (L + C + 1) := by
  induction p with
  | nil => intro t; simp only [sh, lim_nil, List.length_nil, Nat.pow_zero]; omega
  | cons a q ih =>
    intro t
    have hq : Lim L q := fun t => by have := hp (t + 1); rwa [dig_cons] at this
    have h0 := ih hq
    have ha : lim a ≤ L := by have := hp 0; simpa [dig] using this
    have hS : lim (dig (sh c q) t) + (C + 1) ≤ 2 ^ q.length * (L + C + 1) := h0 t
    have hA : lim (dig (a :: sh c q) t) + (C + 1) ≤ 2 ^ q.length * (L + C + 1) := by
      cases t with
      | zero =>
        have h1 : 1 * (L + C + 1) ≤ 2 ^ q.length * (L + C + 1) := Nat.mul_le_mul_right _ (Nat.one_le_two_pow)
        have h2 : dig (a :: sh c q) 0 = a := by simp [dig]
        rw [h2]; omega
      | succ t => rw [dig_cons]; exact h0 t
    have e : 2 ^ (a :: q).length * (L + C + 1) = 2 ^ q.length * (L + C + 1) + 2 ^ q.length * (L + C + 1) := by
      rw [List.length_cons, Nat.pow_succ, Nat.mul_comm (2 ^ q.length) 2, Nat.mul_assoc]; omega
    rw [sh, hor_digs, e]
    have h1 := lim_add (dig (a :: sh c q) t) (c * dig (sh c q) t)
    have h2 := lim_mul c (dig (sh c q) t)
    omega
/-- shifted below, from place i on -/
def ShOut (p : List Int) (c : Int) (i : Nat) (l : List Int) : Prop := l.length = p.length ∧ ∀ t, t < p.length → dig l t = if t < i then dig p t else dig (sh c (p.drop i)) (t - i)
/-- under way: place i is taken in, up to place j -/
def ShSt (p : List Int) (c : Int) (i j : Nat) (l : List Int) : Prop := l.length = p.length ∧ ∀ t, t < p.length → dig l t = if t < i then dig p t else if t < j then dig (sh c (p.drop i)) (t - i) else dig (dig p i :: sh c (p.drop (i + 1))) (t - i)
theorem sh_drop {p : List Int} (c : Int) {i : Nat} (h : i < p.length) : sh c (p.drop i) = hor c (dig p i) (sh c (p.drop (i + 1))) := by
  rw [List.drop_eq_getElem_cons h]
  have : dig p i = p[i] := by simp [dig, h]
  rw [this]; rfl
theorem ShOut.start {p : List Int} (c : Int) (h : 0 < p.length) : ShOut p c (p.length - 1) p := by
  refine ⟨rfl, fun t ht => ?_⟩
  by_cases e : t < p.length - 1
  · rw [if_pos e]
  · rw [if_neg e, sh_drop c (show p.length - 1 < p.length by omega), show p.length - 1 + 1 = p.length by omega, List.drop_length]
    obtain rfl : t = p.length - 1 := by omega
    simp [sh, hor, dig]
theorem ShSt.step {p l : List Int} {c : Int} {i j : Nat} (h : ShSt p c i j l) (hij : i ≤ j) (hj : j + 1 < p.length) : ShSt p c i (j + 1) (l.set j (dig l j + c * dig l (j + 1))) := by
  refine ⟨by simpa using h.1, fun t ht => ?_⟩
  rw [pdig_set _ _ _ _ (by rw [h.1]; exact ht)]
  by_cases e : t = j
  · subst e
    rw [if_pos rfl, h.2 t ht, h.2 (t + 1) hj, if_neg (show ¬ t < i by omega), if_neg (show ¬ t < t by omega), if_neg (show ¬ t + 1 < i by omega), if_neg (show ¬ t + 1 < t by omega), if_neg (show ¬ t < i by omega), if_pos (show t < t + 1 by omega), sh_drop c (show i < p.length by omega), hor_digs, show t + 1 - i = (t - i) + 1 by omega, dig_cons]
  · rw [if_neg e, h.2 t ht]
    by_cases e1 : t < i
    · rw [if_pos e1, if_pos e1]
    · rw [if_neg e1, if_neg e1]
      by_cases e2 : t < j
      · rw [if_pos e2, if_pos (by omega)]
      · rw [if_neg e2, if_neg (by omega)]
theorem ShSt.out {p l : List Int} {c : Int} {i : Nat} (h : ShSt p c i (p.length - 1) l) (hi : i < p.length) : ShOut p c i l := by
  refine ⟨h.1, fun t ht => ?_⟩
  rw [h.2 t ht]
  by_cases e1 : t < i
  · rw [if_pos e1, if_pos e1]
  · rw [if_neg e1, if_neg e1]
    by_cases e2 : t < p.length - 1
    · rw [if_pos e2]
    · rw [if_neg e2, sh_drop c hi, hor_digs, dig_past (s := sh c (p.drop (i + 1))) (k := t - i) (by rw [sh_len]; simp; omega)]
      omega
theorem ShOut.done {p l : List Int} {c : Int} (h : ShOut p c 0 l) : l = sh c p :=
  dig_ext (by rw [h.1, sh_len]) fun t ht => by rw [h.2 t (by rw [← h.1]; exact ht), if_neg (by omega)]; simp
/-- what a shift meets on its way has at most K limbs -/
def ShLim (K : Nat) (c : Int) (p : List Int) : Prop := lim c ≤ K ∧ Lim K p ∧ ∀ i, Lim K (sh c (p.drop i))
theorem ShLim.of {L C N K : Nat} {c : Int} {p : List Int} (hp : Lim L p) (hc : lim c ≤ C) (hn : p.length ≤ N) (hk : 2 ^ N * (L + C + 1) ≤ K) : ShLim K c p := by
  have h0 : 1 * (L + C + 1) ≤ 2 ^ N * (L + C + 1) := Nat.mul_le_mul_right _ Nat.one_le_two_pow
  refine ⟨by omega, hp.mono (by omega), fun i t => ?_⟩
  have h1 := sh_lim (L := L) (C := C) (p := p.drop i) (fun t => by rw [dig_drop]; exact hp _) hc t
  have h2 : 2 ^ (p.drop i).length * (L + C + 1) ≤ 2 ^ N * (L + C + 1) := Nat.mul_le_mul_right _ (Nat.pow_le_pow_right (by decide) (by simp; omega))
  omega
theorem ShSt.lims {p l : List Int} {c : Int} {i j K : Nat} (h : ShSt p c i j l) (hK : ShLim K c p) (hij : i ≤ j) (hj : j + 1 < p.length) : lim (dig l j) ≤ K ∧ lim (dig l (j + 1)) ≤ K := by
  constructor
  · rw [h.2 j (by omega), if_neg (by omega), if_neg (by omega)]
    by_cases e : j = i
    · subst e; have := hK.2.1 j; simpa [dig] using this
    · rw [show j - i = (j - i - 1) + 1 by omega, dig_cons]; exact hK.2.2 _ _
  · rw [h.2 (j + 1) hj, if_neg (by omega), if_neg (by omega), show j + 1 - i = (j - i) + 1 by omega, dig_cons]
    exact hK.2.2 _ _
/-- its highest coefficient is not 0 -/
def Lead (p : List Int) : Prop := 0 < p.length → dig p (p.length - 1) ≠ 0
theorem rev_dig (p : List Int) (t : Nat) (h : t < p.length) : dig p.reverse t = dig p (p.length - 1 - t) := by
  unfold dig; rw [List.getD_eq_getElem?_getD, List.getD_eq_getElem?_getD, List.getElem?_reverse h]
theorem rev_lim {K : Nat} {p : List Int} (h : Lim K p) : Lim K p.reverse := by
  intro t
  by_cases ht : t < p.length
  · rw [rev_dig _ _ ht]; exact h _
  · rw [dig_past (by simp; omega), lim_zero]; omega
theorem drop_lim {K i : Nat} {p : List Int} (h : Lim K p) : Lim K (p.drop i) := fun t => by rw [dig_drop]; exact h _
/-- turned round from both ends, up to place i -/
def RevSt (p : List Int) (i : Nat) (l : List Int) : Prop := l.length = p.length ∧ ∀ t, t < p.length → dig l t = if t < i ∨ p.length ≤ t + i then dig p (p.length - 1 - t) else dig p t
theorem RevSt.start (p : List Int) : RevSt p 0 p := ⟨rfl, fun t ht => by rw [if_neg (by omega)]⟩
theorem RevSt.step {p l : List Int} {i : Nat} (h : RevSt p i l) (hi : i + i + 1 < p.length) : RevSt p (i + 1) ((l.set i (dig l (p.length - 1 - i))).set (p.length - 1 - i) (dig l i)) := by
  refine ⟨by simpa using h.1, fun t ht => ?_⟩
  rw [pdig_set _ _ _ _ (by simp [h.1]; exact ht), pdig_set _ _ _ _ (by rw [h.1]; exact ht)]
  by_cases e : t = p.length - 1 - i
  · rw [if_pos e, h.2 i (by omega), if_neg (by omega), if_pos (by omega), e]; congr 1; omega
  · rw [if_neg e]
    by_cases e2 : t = i
    · rw [if_pos e2, h.2 _ (by omega), if_neg (by omega), if_pos (by omega), e2]
    · rw [if_neg e2, h.2 t ht]
      by_cases e3 : t < i ∨ p.length ≤ t + i
      · rw [if_pos e3, if_pos (by omega)]
      · rw [if_neg e3, if_neg (by omega)]
theorem RevSt.done {p l : List Int} {i : Nat} (h : RevSt p i l) (hi : p.length ≤ i + i + 1) : l = p.reverse :=
  dig_ext (by simp [h.1]) fun t ht => by
    rw [h.1] at ht
    rw [h.2 t ht, rev_dig _ _ ht]
    by_cases e : t < i ∨ p.length ≤ t + i
    · rw [if_pos e]
    · rw [if_neg e]; congr 1; omega
/-- turned: without the lowest noughts, from behind -/
def TurnOf (p q : List Int) : Prop := ∃ low, low ≤ p.length ∧ (∀ t, t < low → dig p t = 0) ∧ (low < p.length → dig p low ≠ 0) ∧ q = (p.drop low).reverse
theorem TurnOf.lead {p q : List Int} (h : TurnOf p q) : Lead q := by
  obtain ⟨low, h1, h2, h3, rfl⟩ := h
  intro h0
  simp only [List.length_reverse, List.length_drop] at h0 ⊢
  rw [rev_dig _ _ (by simp; omega), dig_drop]
  simp only [List.length_drop]
  rw [show low + (p.length - low - 1 - (p.length - low - 1)) = low by omega]
  exact h3 (by omega)
theorem TurnOf.len {p q : List Int} (h : TurnOf p q) : q.length ≤ p.length := by
  obtain ⟨low, h1, h2, h3, rfl⟩ := h
  simp
theorem TurnOf.lim {K : Nat} {p q : List Int} (h : TurnOf p q) (hK : Lim K p) : Lim K q := by
  obtain ⟨low, h1, h2, h3, rfl⟩ := h
  exact rev_lim (drop_lim hK)
theorem TurnOf.whole {p q : List Int} (h : TurnOf p q) (h0 : dig p 0 ≠ 0) : q = p.reverse := by
  obtain ⟨low, h1, h2, h3, rfl⟩ := h
  obtain rfl : low = 0 := by
    rcases Nat.eq_zero_or_pos low with e | e
    · exact e
    · exact absurd (h2 0 e) h0
  simp
end Go.Proofs.YtnniipekcbjloaaDoor
/- Polynomials in memory: a list of numbers, each a sign and a row of words; lists whose numbers may be none; a list of the call's own, that may be written. -/
namespace Go.Proofs.YtnniipekcbjloaaDoor
open Go.RowKit
set_option linter.unusedVariables false
set_option linter.unusedSimpArgs false
/-- a sign and a row of words lie at o in block b -/
def RawAt (w : World) (b o : Nat) (n : Bool) (zs : List Int) : Prop := ∃ ao l c, (w.cell? ⟨b, o, none⟩ = some (.bool n) ∧ w.cell? ⟨b, o + 1, none⟩ = some (.slice ao l c)) ∧ RowAt w .u64 ao l c zs ∧ Wd 18446744073709551616 zs
/-- a number lies at o in block b -/
def CoefAt (w : World) (b o : Nat) (v : Int) : Prop := ∃ n ao l c, (w.cell? ⟨b, o, none⟩ = some (.bool n) ∧ w.cell? ⟨b, o + 1, none⟩ = some (.slice ao l c)) ∧ IntAt w n ao l c v
theorem CoefAt.lt {w : World} {b o : Nat} {v : Int} (h : CoefAt w b o v) : b < w.heap.size := by
  obtain ⟨n, ao, l, c, ⟨h0, _⟩, _⟩ := h
  exact cell_lt h0
theorem RawAt.lt {w : World} {b o : Nat} {n : Bool} {zs : List Int} (h : RawAt w b o n zs) : b < w.heap.size := by
  obtain ⟨ao, l, c, ⟨h0, _⟩, _⟩ := h
  exact cell_lt h0
theorem CoefAt.later {w w' : World} {b o : Nat} {v : Int} (h : CoefAt w b o v) (hb : Below w.heap.size w w') : CoefAt w' b o v := by
  have hlt := h.lt
  obtain ⟨n, ao, l, c, ⟨h0, h1⟩, hi⟩ := h
  exact ⟨n, ao, l, c, ⟨(hb.cell (p := ⟨b, o, none⟩) hlt).trans h0, (hb.cell (p := ⟨b, o + 1, none⟩) hlt).trans h1⟩, hi.later hb⟩
theorem RawAt.later {w w' : World} {b o : Nat} {n : Bool} {zs : List Int} (h : RawAt w b o n zs) (hb : Below w.heap.size w w') : RawAt w' b o n zs := by
  have hlt := h.lt
  obtain ⟨ao, l, c, ⟨h0, h1⟩, hi, hw⟩ := h
  exact ⟨ao, l, c, ⟨(hb.cell (p := ⟨b, o, none⟩) hlt).trans h0, (hb.cell (p := ⟨b, o + 1, none⟩) hlt).trans h1⟩, hi.later hb, hw⟩
/-- a list of signs and rows -/
structure RawsAt (w : World) (ao : Option Addr) (len cap : Nat) (rs : List (Bool × List Int)) : Prop where
  hlen : len = rs.length
  hcap : len ≤ cap
  hnil : ao = none → cap = 0
  hat : len = 0 ∨ ∃ b off, ao = some ⟨b, off, none⟩ ∧ ∀ t, (ht : t < rs.length) → RawAt w b (off + t * 2) (rs[t]).1 (rs[t]).2
/-- a polynomial -/
structure PolyAt (w : World) (ao : Option Addr) (len cap : Nat) (p : List Int) : Prop where
  hlen : len = p.length
  hcap : len ≤ cap
  hnil : ao = none → cap = 0
  hat : len = 0 ∨ ∃ b off, ao = some ⟨b, off, none⟩ ∧ ∀ t, t < len → CoefAt w b (off + t * 2) (dig p t)
theorem PolyAt.get {w : World} {ao : Option Addr} {len cap : Nat} {p : List Int} (h : PolyAt w ao len cap p) (hp : 0 < len) :
    ∃ b off, ao = some ⟨b, off, none⟩ ∧ ∀ t, t < len → CoefAt w b (off + t * 2) (dig p t) := by
  rcases h.hat with h | h
  · omega
  · exact h
theorem RawsAt.get {w : World} {ao : Option Addr} {len cap : Nat} {rs : List (Bool × List Int)} (h : RawsAt w ao len cap rs) (hp : 0 < len) :
    ∃ b off, ao = some ⟨b, off, none⟩ ∧ ∀ t, (ht : t < rs.length) → RawAt w b (off + t * 2) (rs[t]).1 (rs[t]).2 := by
  rcases h.hat with h | h
  · omega
  · exact h
theorem PolyAt.later {w w' : World} {ao : Option Addr} {len cap : Nat} {p : List Int} (h : PolyAt w ao len cap p) (hb : Below w.heap.size w w') : PolyAt w' ao len cap p := by
  refine ⟨h.hlen, h.hcap, h.hnil, ?_⟩
  rcases h.hat with h0 | ⟨b, off, h1, h2⟩
  · exact Or.inl h0
  · exact Or.inr ⟨b, off, h1, fun t ht => (h2 t ht).later hb⟩
theorem RawsAt.later {w w' : World} {ao : Option Addr} {len cap : Nat} {rs : List (Bool × List Int)} (h : RawsAt w ao len cap rs) (hb : Below w.heap.size w w') : RawsAt w' ao len cap rs := by
  refine ⟨h.hlen, h.hcap, h.hnil, ?_⟩
  rcases h.hat with h0 | ⟨b, off, h1, h2⟩
  · exact Or.inl h0
  · exact Or.inr ⟨b, off, h1, fun t ht => (h2 t ht).later hb⟩
theorem PolyAt.take {w : World} {ao : Option Addr} {len cap : Nat} {p : List Int} (h : PolyAt w ao len cap p) {n : Nat} (hn : n ≤ len) : PolyAt w ao n cap (p.take n) := by
  refine ⟨?_, Nat.le_trans hn h.hcap, h.hnil, ?_⟩
  · have := h.hlen; simp; omega
  · rcases h.hat with h0 | ⟨b, off, h1, h2⟩
    · exact Or.inl (by omega)
    · exact Or.inr ⟨b, off, h1, fun t ht => by rw [dig_take ht]; exact h2 t (by omega)⟩
/-- its length tells how many limbs -/
theorem IntAt.lim {w : World} {n : Bool} {ao : Option Addr} {l c : Nat} {v : Int} (h : IntAt w n ao l c v) : l = lim v := h.row.hlen
/-- the numbers of a list, if all are -/
theorem polys_of_raws {w : World} {ao : Option Addr} {len cap : Nat} {rs : List (Bool × List Int)} (h : RawsAt w ao len cap rs) (hm : ∀ r ∈ rs, mayB r.1 r.2 = true) : ∃ p, PolyAt w ao len cap p := by
  rcases Nat.eq_zero_or_pos len with h0 | h0
  · subst h0
    exact ⟨[], rfl, h.hcap, h.hnil, Or.inl rfl⟩
  · obtain ⟨b, off, h1, h2⟩ := h.get h0
    have hv : ∀ t, ∃ v, (ht : t < rs.length) → CoefAt w b (off + t * 2) v := by
      intro t
      by_cases ht : t < rs.length
      · obtain ⟨ao', l, c, hc, hr, hw⟩ := h2 t ht
        obtain ⟨v, hi, _⟩ := int_of_may hr hw (hm _ (List.getElem_mem ht))
        exact ⟨v, fun _ => ⟨_, ao', l, c, hc, hi⟩⟩
      · exact ⟨0, fun h => absurd h ht⟩
    refine ⟨(List.range len).map fun t => Classical.choose (hv t), by simp, h.hcap, h.hnil, Or.inr ⟨b, off, h1, fun t ht => ?_⟩⟩
    have e : dig ((List.range len).map fun t => Classical.choose (hv t)) t = Classical.choose (hv t) := by
      unfold dig
      rw [List.getD_eq_getElem?_getD, List.getElem?_map, List.getElem?_range ht]; rfl
    rw [e]
    exact Classical.choose_spec (hv t) (by rw [← h.hlen]; exact ht)
/-- a list of numbers of the call's own, that may be written -/
structure PBlk (w : World) (g : Nat) (p : List Int) : Prop where
  soft : ∀ j, w.frozen? ⟨g, j, none⟩ = false
  coef : ∀ t, t < p.length → CoefAt w g (t * 2) (dig p t)
theorem PBlk.later {w w' : World} {g : Nat} {p : List Int} (h : PBlk w g p) (hb : Below w.heap.size w w') (hg : g < w.heap.size) : PBlk w' g p :=
  ⟨fun j => (hb.frozen (p := ⟨g, j, none⟩) hg).trans (h.soft j), fun t ht => (h.coef t ht).later hb⟩
theorem IntAt.cellKept {w : World} {n : Bool} {ao : Option Addr} {l c r j : Nat} {v : Int} {u : Value} (h : IntAt w n ao l c v) (hv : w.cell? ⟨r, j, none⟩ = some u) (hn : ∀ z, u ≠ .int .u64 z) (x : Value) : IntAt (w.setCell ⟨r, j, none⟩ x) n ao l c v := by
  refine ⟨h.sg, h.row.hlen, h.row.hcap, h.row.hnil, ?_⟩
  rcases h.row.hat with h0 | ⟨b, off, h1, hlt, h2⟩
  · exact Or.inl h0
  · refine Or.inr ⟨b, off, h1, by simpa [World.setCell] using hlt, fun t ht => ?_⟩
    have hc := h2 t ht
    rw [setCell_ne]
    · exact hc
    · rintro ⟨e1, e2⟩
      simp only at e1 e2
      rw [e1, e2, hv] at hc
      exact hn _ (Option.some.inj hc)
theorem soft_far {w : World} {r j b o : Nat} {v : Value} : (w.setCell ⟨r, j, none⟩ v).frozen? ⟨b, o, none⟩ = w.frozen? ⟨b, o, none⟩ := by simp [go_sem]
/-- a number put into the list -/
theorem PBlk.put {w : World} {g t l c : Nat} {n : Bool} {ao : Option Addr} {p : List Int} {v : Int} (h : PBlk w g p) (ht : t < p.length) (hi : IntAt w n ao l c v) : PBlk ((w.setCell ⟨g, t * 2, none⟩ (.bool n)).setCell ⟨g, t * 2 + 1, none⟩ (.slice ao l c)) g (p.set t v) := by
  obtain ⟨n0, ao0, l0, c0, ⟨e0, e1⟩, _⟩ := h.coef t ht
  have e1' : (w.setCell ⟨g, t * 2, none⟩ (.bool n)).cell? ⟨g, t * 2 + 1, none⟩ = some (.slice ao0 l0 c0) := by simp [go_sem, e0, e1]
  have keep : ∀ {m : Bool} {bo : Option Addr} {k d : Nat} {u : Int}, IntAt w m bo k d u → IntAt ((w.setCell ⟨g, t * 2, none⟩ (.bool n)).setCell ⟨g, t * 2 + 1, none⟩ (.slice ao l c)) m bo k d u :=
    fun h => (h.cellKept e0 (fun z e => by cases e) _).cellKept e1' (fun z e => by cases e) _
  refine ⟨fun j => by rw [soft_far, soft_far]; exact h.soft j, fun s hs => ?_⟩
  rw [List.length_set] at hs
  rw [pdig_set _ _ _ _ hs]
  by_cases e : s = t
  · subst e
    rw [if_pos rfl]
    exact ⟨n, ao, l, c, ⟨by simp [go_sem, e0, e1], by simp [go_sem, e0, e1]⟩, keep hi⟩
  · rw [if_neg e]
    obtain ⟨m, bo, k, d, ⟨q0, q1⟩, hj⟩ := h.coef s hs
    exact ⟨m, bo, k, d, ⟨by rw [setCell_ne (by rintro ⟨_, h⟩; simp only at h; omega), setCell_ne (by rintro ⟨_, h⟩; simp only at h; omega)]; exact q0, by rw [setCell_ne (by rintro ⟨_, h⟩; simp only at h; omega), setCell_ne (by rintro ⟨_, h⟩; simp only at h; omega)]; exact q1⟩, keep hj⟩
end Go.Proofs.YtnniipekcbjloaaDoor
/-
  Rationals in plain: what sums, products, quotients are made of; lengths. Rationals in memory.
-/
namespace Go.Proofs.YtnniipekcbjloaaDoor
open Go.RowKit
set_option linter.unusedVariables false
set_option linter.unusedSimpArgs false
theorem rmake_parts {n : Int} {d : Nat} (h : d ≠ 0) : (Rat.normalize n d h).num = n / ((n.natAbs.gcd d : Nat) : Int) ∧ (Rat.normalize n d h).den = d / n.natAbs.gcd d := by
  rw [Rat.normalize_eq]; exact ⟨rfl, rfl⟩
/-- numerator and denominator have at most k limbs -/
def Sz (r : Rat) (k : Nat) : Prop := (mag r.num.natAbs).length ≤ k ∧ (mag r.den).length ≤ k
theorem Sz.mono {r : Rat} {k m : Nat} (h : Sz r k) (hk : k ≤ m) : Sz r m := ⟨Nat.le_trans h.1 hk, Nat.le_trans h.2 hk⟩
theorem div_len (a b : Nat) : (mag (a / b)).length ≤ (mag a).length := mag_len_mono (Nat.div_le_self a b)
theorem idiv_abs {n : Int} {d : Nat} (h : (d : Int) ∣ n) : (n / (d : Int)).natAbs = n.natAbs / d := by
  rw [Int.natAbs_ediv_of_dvd h]; rfl
theorem idiv_len {n : Int} {d : Nat} (h : (d : Int) ∣ n) : (mag (n / (d : Int)).natAbs).length ≤ (mag n.natAbs).length := by
  rw [idiv_abs h]; exact div_len _ _
theorem gcd_dvd_abs (n : Int) (d : Nat) : ((n.natAbs.gcd d : Nat) : Int) ∣ n := Int.ofNat_dvd_left.2 (Nat.gcd_dvd_left _ _)
theorem Sz.make {n : Int} {d k : Nat} (h : d ≠ 0) (h1 : (mag n.natAbs).length ≤ k) (h2 : (mag d).length ≤ k) : Sz (Rat.normalize n d h) k := by
  obtain ⟨e1, e2⟩ := rmake_parts (n := n) h
  exact ⟨by rw [e1]; exact Nat.le_trans (idiv_len (gcd_dvd_abs _ _)) h1, by rw [e2]; exact Nat.le_trans (div_len _ _) h2⟩
theorem Sz.mul {a b : Rat} {i j : Nat} (ha : Sz a i) (hb : Sz b j) : Sz (a * b) (i + j) := by
  rw [Rat.mul_def]
  refine Sz.make _ ?_ ?_
  · rw [Int.natAbs_mul]; have := mag_len_mul a.num.natAbs b.num.natAbs; have := ha.1; have := hb.1; omega
  · have := mag_len_mul a.den b.den; have := ha.2; have := hb.2; omega
theorem Sz.neg {a : Rat} {i : Nat} (ha : Sz a i) : Sz (-a) i := ⟨by rw [Rat.neg_num, Int.natAbs_neg]; exact ha.1, by rw [Rat.neg_den]; exact ha.2⟩
theorem Sz.add {a b : Rat} {i j : Nat} (ha : Sz a i) (hb : Sz b j) : Sz (a + b) (2 * i + 2 * j + 1) := by
  rw [Rat.add_def]
  refine Sz.make _ ?_ ?_
  · have h1 := add_len (a.num * (b.den : Int)) (b.num * (a.den : Int))
    have h2 := mul_len a.num (b.den : Int)
    have h3 := mul_len b.num (a.den : Int)
    rw [Int.natAbs_natCast] at h2 h3
    have := ha.1; have := ha.2; have := hb.1; have := hb.2; omega
  · have := mag_len_mul a.den b.den; have := ha.2; have := hb.2; omega
theorem Sz.inv {a : Rat} {i : Nat} (ha : Sz a i) (h0 : a ≠ 0) : Sz a⁻¹ i := by
  have hn : a.num ≠ 0 := fun e => h0 (Rat.num_eq_zero.1 e)
  constructor
  · rw [Rat.num_inv]
    have : (a.num.sign * (a.den : Int)).natAbs = a.den := by
      rw [Int.natAbs_mul, Int.natAbs_sign_of_ne_zero hn]; simp
    rw [this]; exact ha.2
  · rw [Rat.den_inv, if_neg hn]; exact ha.1
/-- a rational in memory -/
structure RatAt (w : World) (neg : Bool) (ao : Option Addr) (l c : Nat) (bo : Option Addr) (lb cb : Nat) (r : Rat) : Prop where
  num : IntAt w neg ao l c r.num
  den : RowAt w .u64 bo lb cb (mag r.den)
theorem RatAt.later {w w' : World} {neg : Bool} {ao bo : Option Addr} {l c lb cb : Nat} {r : Rat} (h : RatAt w neg ao l c bo lb cb r) (hb : Below w.heap.size w w') : RatAt w' neg ao l c bo lb cb r := ⟨h.num.later hb, h.den.later hb⟩
theorem RatAt.len {w : World} {neg : Bool} {ao bo : Option Addr} {l c lb cb k : Nat} {r : Rat} (h : RatAt w neg ao l c bo lb cb r) (hs : Sz r k) : l ≤ k ∧ lb ≤ k := ⟨by rw [h.num.row.hlen]; exact hs.1, by rw [h.den.hlen]; exact hs.2⟩
/-- cells of a variable -/
def Bx (W : World) (r : Nat) (vs : List Value) : Prop := (∀ j v, vs[j]? = some v → W.cell? ⟨r, j, none⟩ = some v) ∧ (∀ j, W.frozen? ⟨r, j, none⟩ = false)
theorem Bx.later {W w' : World} {B r : Nat} {vs : List Value} (h : Bx W r vs) (hb : Below B W w') (hr : r < B) : Bx w' r vs :=
  ⟨fun j v hj => (hb.cell (p := ⟨r, j, none⟩) hr).trans (h.1 j v hj), fun j => (hb.frozen (p := ⟨r, j, none⟩) hr).trans (h.2 j)⟩
end Go.Proofs.YtnniipekcbjloaaDoor
/-
  Variables of any number of cells: what lies in them, what is stored into them.
-/
namespace Go.Proofs.YtnniipekcbjloaaDoor
open Go.RowKit
set_option linter.unusedVariables false
set_option linter.unusedSimpArgs false
theorem cell_off {w : World} {r j b o : Nat} {v : Value} (h : b ≠ r) : (w.setCell ⟨r, j, none⟩ v).cell? ⟨b, o, none⟩ = w.cell? ⟨b, o, none⟩ := setCell_ne (fun e => h e.1)
theorem frozen_off {w : World} {r j b o : Nat} {v : Value} : (w.setCell ⟨r, j, none⟩ v).frozen? ⟨b, o, none⟩ = w.frozen? ⟨b, o, none⟩ := by simp [go_sem]
/-- values stored into cells of block r, from j on -/
def putl (w : World) (r : Nat) : Nat → List Value → World
  | _, [] => w
  | j, v :: vs => putl (w.setCell ⟨r, j, none⟩ v) r (j + 1) vs
theorem putl_off {r b o : Nat} (h : b ≠ r) : ∀ (vs : List Value) (j : Nat) (w : World), (putl w r j vs).cell? ⟨b, o, none⟩ = w.cell? ⟨b, o, none⟩
  | [], _, _ => rfl
  | v :: vs, j, w => (putl_off h vs (j + 1) _).trans (cell_off h)
theorem putl_low {r o : Nat} : ∀ (vs : List Value) (j : Nat) (w : World), o < j → (putl w r j vs).cell? ⟨r, o, none⟩ = w.cell? ⟨r, o, none⟩
  | [], _, _, _ => rfl
  | v :: vs, j, w, h => (putl_low vs (j + 1) _ (by omega)).trans (setCell_ne (fun e => by have := e.2; dsimp only at this; omega))
theorem putl_high {r o : Nat} : ∀ (vs : List Value) (j : Nat) (w : World), j + vs.length ≤ o → (putl w r j vs).cell? ⟨r, o, none⟩ = w.cell? ⟨r, o, none⟩
  | [], _, _, _ => rfl
  | v :: vs, j, w, h => (putl_high vs (j + 1) _ (by simp at h; omega)).trans (setCell_ne (fun e => by have := e.2; dsimp only at this; simp at h; omega))
theorem putl_frozen {r b o : Nat} : ∀ (vs : List Value) (j : Nat) (w : World), (putl w r j vs).frozen? ⟨b, o, none⟩ = w.frozen? ⟨b, o, none⟩
  | [], _, _ => rfl
  | v :: vs, j, w => (putl_frozen vs (j + 1) _).trans frozen_off
theorem putl_size {r : Nat} : ∀ (vs : List Value) (j : Nat) (w : World), (putl w r j vs).heap.size = w.heap.size
  | [], _, _ => rfl
  | v :: vs, j, w => (putl_size vs (j + 1) _).trans (by simp [World.setCell])
theorem putl_below {B r : Nat} {w : World} (hr : B ≤ r) : ∀ (vs : List Value) (j : Nat) (w2 : World), Below B w w2 → Below B w (putl w2 r j vs)
  | [], _, _, h => h
  | v :: vs, j, w2, h => putl_below hr vs (j + 1) _ (h.setCell (p := ⟨r, j, none⟩) hr v)
theorem set_hit {w : World} {r j : Nat} {x v : Value} (h : w.cell? ⟨r, j, none⟩ = some x) : (w.setCell ⟨r, j, none⟩ v).cell? ⟨r, j, none⟩ = some v := by simp [go_sem, h]
theorem putl_at {r : Nat} : ∀ (ws vs : List Value) (j : Nat) (w : World), ws.length = vs.length → (∀ i x, vs[i]? = some x → w.cell? ⟨r, j + i, none⟩ = some x) → ∀ i v, ws[i]? = some v → (putl w r j ws).cell? ⟨r, j + i, none⟩ = some v
  | [], _, _, _, _, _, i, v, h => by simp at h
  | u :: ws, [], _, _, hl, _, _, _, _ => by simp at hl
  | u :: ws, x :: vs, j, w, hl, hc, 0, v, h => by
    have h0 : u = v := by simpa using h
    subst h0
    exact (putl_low ws (j + 1) _ (by omega)).trans (set_hit (hc 0 x rfl))
  | u :: ws, x :: vs, j, w, hl, hc, i + 1, v, h => by
    have h1 := putl_at ws vs (j + 1) (w.setCell ⟨r, j, none⟩ u) (by simpa using hl) (fun i' x' h' => (setCell_ne (fun e => by have := e.2; dsimp only at this; omega)).trans ((by rw [show j + 1 + i' = j + (i' + 1) by omega]; exact hc (i' + 1) x' (by simpa using h')))) i v (by simpa using h)
    rw [show j + 1 + i = j + (i + 1) by omega] at h1
    exact h1
theorem Bx.put {w : World} {r : Nat} {ws vs : List Value} (h : Bx w r vs) (hl : ws.length = vs.length) : Bx (putl w r 0 ws) r ws :=
  ⟨fun i v hi => by have := putl_at ws vs 0 w hl (fun i' x h' => by rw [Nat.zero_add]; exact h.1 i' x h') i v hi; rwa [Nat.zero_add] at this, fun j => (putl_frozen ws 0 w).trans (h.2 j)⟩
theorem Bx.off {w : World} {r b : Nat} {ws vs : List Value} (h : Bx w b vs) (hb : b ≠ r) (j : Nat) : Bx (putl w r j ws) b vs :=
  ⟨fun i v hi => (putl_off hb ws j w).trans (h.1 i v hi), fun i => (putl_frozen ws j w).trans (h.2 i)⟩
theorem Bx.lt {w : World} {r : Nat} {v : Value} {vs : List Value} (h : Bx w r (v :: vs)) : r < w.heap.size := cell_lt (h.1 0 v rfl)
theorem Bx.new (w : World) (vs : List Value) (t : TypeId) : Bx (w.alloc (.cells vs.toArray t)) w.heap.size vs :=
  ⟨fun j v h => by simpa [go_sem] using h, fun j => by simp [go_sem]⟩
/-- no word lies in a variable's cells -/
def NoWord (vs : List Value) : Prop := ∀ v ∈ vs, ∀ z : Int, v ≠ .int .u64 z
theorem Bx.row {w : World} {r : Nat} {vs ws : List Value} {p : Option Addr} {m k : Nat} {zs : List Int} (h : Bx w r vs) (hn : NoWord vs) (hl : ws.length = vs.length) (hr : RowAt w .u64 p m k zs) : RowAt (putl w r 0 ws) .u64 p m k zs := by
  refine ⟨hr.hlen, hr.hcap, hr.hnil, ?_⟩
  rcases hr.hat with h0 | ⟨b, off, h1, hlt, h2⟩
  · exact Or.inl h0
  · refine Or.inr ⟨b, off, h1, by rw [putl_size]; exact hlt, fun t ht => ?_⟩
    have h3 := h2 t ht
    by_cases e : b = r
    · subst e
      by_cases h4 : off + t < vs.length
      · have h5 := h.1 (off + t) vs[off + t] (List.getElem?_eq_getElem h4)
        rw [h3] at h5
        exact absurd (Option.some.inj h5).symm (hn _ (List.getElem_mem h4) _)
      · rw [putl_high ws 0 w (by omega)]; exact h3
    · rw [putl_off e ws 0 w]; exact h3
end Go.Proofs.YtnniipekcbjloaaDoor
/-
  GA, GB, GC, GD, GE, GF, GG, GH, GI, LE0.
-/
/- Plain mathematics: greatest common divisors; many steps of Euclid's way at once (Lehmer, with Collins' condition). -/
namespace Go.Proofs.YtnniipekcbjloaaDoor
set_option linter.unusedVariables false
set_option linter.unusedSimpArgs false
/-- where foresee stands: s is the sign; a and b are x0 K + al, y0 K + be -/
structure Fore (A B x0 y0 x y u0 u1 u2 v0 v1 v2 s : Int) : Prop where
  sg : s = 1 ∨ s = -1
  n0 : 0 ≤ u0 ∧ 0 ≤ u1 ∧ 0 ≤ u2
  n1 : 0 ≤ v0 ∧ 0 ≤ v1 ∧ 1 ≤ v2
  hx : x = s * (u1 * x0 - v1 * y0)
  hy : y = s * (v2 * y0 - u2 * x0)
  h0 : 0 ≤ y
  h1 : y ≤ x
  ix : v2 * x + v1 * y = x0
  iy : u2 * x + u1 * y = y0
  dt : u1 * v2 - u2 * v1 = s
  le : u2 ≤ v2
  ls : u1 + u2 ≤ v1 + v2
  ph : (u0 = 0 ∧ v0 = 0 ∧ u1 = 1 ∧ v1 = 0 ∧ u2 = 0 ∧ v2 = 1 ∧ s = 1) ∨ (u0 = 1 ∧ v0 = 0 ∧ u1 = 0 ∧ v1 = 1 ∧ u2 = 1 ∧ s = -1) ∨
    ((1 ≤ v0 ∧ 1 ≤ v1) ∧ u0 * v1 - u1 * v0 = -s ∧ 0 ≤ s * (u1 * A - v1 * B) ∧ s * (u1 * A - v1 * B) ≤ s * (v0 * B - u0 * A) ∧ s * (v0 * B - u0 * A) ≤ B ∧ s * (v0 * B - u0 * A) + s * (u1 * A - v1 * B) ≤ A)
theorem Fore.start {A B x0 y0 : Int} (h0 : 0 ≤ y0) (h1 : y0 ≤ x0) : Fore A B x0 y0 x0 y0 0 1 0 0 0 1 1 :=
  ⟨Or.inl rfl, by decide, by decide, by simp, by simp, h0, h1, by simp, by simp, by simp, by decide, by decide, Or.inl ⟨rfl, rfl, rfl, rfl, rfl, rfl, rfl⟩⟩
/-- what Collins' condition says of the whole numbers -/
theorem Fore.cond {A B x0 y0 x y u0 u1 u2 v0 v1 v2 s K al be : Int} (h : Fore A B x0 y0 x y u0 u1 u2 v0 v1 v2 s) (hA : A = x0 * K + al) (hB : B = y0 * K + be) (ha0 : 0 ≤ al) (ha1 : al < K) (hb0 : 0 ≤ be) (hb1 : be < K) (c1 : v2 ≤ y) (c2 : v1 + v2 ≤ x - y) :
    0 ≤ s * (v2 * B - u2 * A) ∧ s * (v2 * B - u2 * A) ≤ s * (u1 * A - v1 * B) := by
  have hK : 0 < K := by omega
  obtain ⟨n1, n2, n3⟩ := h.n0
  obtain ⟨m1, m2, m3⟩ := h.n1
  have e1 : s * (v2 * B - u2 * A) = y * K + s * (v2 * be - u2 * al) := by rw [h.hy, hA, hB]; grind
  have e2 : s * (u1 * A - v1 * B) = x * K + s * (u1 * al - v1 * be) := by rw [h.hx, hA, hB]; grind
  have p1 : 0 ≤ v2 * be := Int.mul_nonneg (by omega) hb0
  have p2 : v2 * be ≤ v2 * K := Int.mul_le_mul_of_nonneg_left (by omega) (by omega)
  have p3 : 0 ≤ u2 * al := Int.mul_nonneg n3 ha0
  have p4 : u2 * al ≤ u2 * K := Int.mul_le_mul_of_nonneg_left (by omega) n3
  have p5 : u2 * K ≤ v2 * K := Int.mul_le_mul_of_nonneg_right h.le (by omega)
  have p6 : v2 * K ≤ y * K := Int.mul_le_mul_of_nonneg_right c1 (by omega)
  have p7 : (v1 + v2) * K ≤ (x - y) * K := Int.mul_le_mul_of_nonneg_right c2 (by omega)
  have p8 : (u1 + u2) * al ≤ (u1 + u2) * K := Int.mul_le_mul_of_nonneg_left (by omega) (by omega)
  have p9 : (u1 + u2) * K ≤ (v1 + v2) * K := Int.mul_le_mul_of_nonneg_right h.ls (by omega)
  have pa : (v1 + v2) * be ≤ (v1 + v2) * K := Int.mul_le_mul_of_nonneg_left (by omega) (by omega)
  have pb : 0 ≤ (u1 + u2) * al := Int.mul_nonneg (by omega) ha0
  have pc : 0 ≤ (v1 + v2) * be := Int.mul_nonneg (by omega) hb0
  rw [e1, e2]
  simp only [Int.add_mul, Int.sub_mul] at p7 p8 p9 pa pb pc
  rcases h.sg with hs | hs <;> rw [hs] <;> simp only [Int.one_mul, Int.neg_mul] <;> omega
theorem Fore.step {A B x0 y0 x y u0 u1 u2 v0 v1 v2 s K al be q r : Int} (h : Fore A B x0 y0 x y u0 u1 u2 v0 v1 v2 s) (hA : A = x0 * K + al) (hB : B = y0 * K + be) (ha0 : 0 ≤ al) (ha1 : al < K) (hb0 : 0 ≤ be) (hb1 : be < K) (c1 : v2 ≤ y) (c2 : v1 + v2 ≤ x - y)
    (hq : x = q * y + r) (hr0 : 0 ≤ r) (hr1 : r < y) (hq1 : 1 ≤ q) (hBp : 0 ≤ B) : Fore A B x0 y0 y r u1 u2 (u1 + q * u2) v1 v2 (v1 + q * v2) (-s) := by
  obtain ⟨k1, k2⟩ := h.cond hA hB ha0 ha1 hb0 hb1 c1 c2
  obtain ⟨n1, n2, n3⟩ := h.n0
  obtain ⟨m1, m2, m3⟩ := h.n1
  have g1 : u2 ≤ q * u2 := by have := Int.mul_le_mul_of_nonneg_right hq1 n3; omega
  have g2 : v2 ≤ q * v2 := by have := Int.mul_le_mul_of_nonneg_right hq1 (show 0 ≤ v2 by omega); omega
  have g3 : q * u2 - u2 ≤ q * v2 - v2 := by
    have := Int.mul_le_mul_of_nonneg_left h.le (show 0 ≤ q - 1 by omega)
    rw [Int.sub_mul, Int.sub_mul] at this; omega
  have hls := h.ls
  have hle := h.le
  have hix := h.ix
  have hiy := h.iy
  have hdt := h.dt
  refine ⟨by rcases h.sg with e | e <;> rw [e] <;> simp, ⟨n2, n3, by omega⟩, ⟨m2, by omega, by omega⟩, ?_, ?_, hr0, by omega, ?_, ?_, ?_, by omega, by omega, ?_⟩
  · rw [h.hy]; grind
  · have : r = x - q * y := by omega
    rw [this, h.hx, h.hy]; grind
  · rw [← hix, hq]; grind
  · rw [← hiy, hq]; grind
  · rw [← hdt]; grind
  · rcases h.ph with ⟨e1, e2, e3, e4, e5, e6, e7⟩ | ⟨e1, e2, e3, e4, e5, e6⟩ | ⟨e1, e2, e3, e4, e5, e6⟩
    · refine Or.inr (Or.inl ⟨e3, e4, e5, e6, ?_, by rw [e7]⟩)
      rw [e3, e5]; simp
    · refine Or.inr (Or.inr ?_)
      subst e1 e2 e3 e4 e5 e6
      have hv : B ≤ v2 * B := by have := Int.mul_le_mul_of_nonneg_right m3 hBp; omega
      refine ⟨⟨by decide, m3⟩, by simp, ?_, ?_, ?_, ?_⟩ <;> simp at k1 k2 ⊢ <;> omega
    · refine Or.inr (Or.inr ?_)
      have f1 : -s * (u2 * A - v2 * B) = s * (v2 * B - u2 * A) := by grind
      have f2 : -s * (v1 * B - u1 * A) = s * (u1 * A - v1 * B) := by grind
      exact ⟨⟨e1.2, m3⟩, by rw [hdt]; simp, by rw [f1]; exact k1, by rw [f1, f2]; exact k2, by rw [f2]; omega, by rw [f1, f2]; omega⟩
/-- what is told where foresee stops: the next two numbers, or none -/
theorem Fore.ends {A B x0 y0 x y u0 u1 u2 v0 v1 v2 s : Int} (h : Fore A B x0 y0 x y u0 u1 u2 v0 v1 v2 s) (hv : v0 ≠ 0) :
    u0 * v1 - u1 * v0 = -s ∧ 0 ≤ s * (u1 * A - v1 * B) ∧ s * (u1 * A - v1 * B) ≤ s * (v0 * B - u0 * A) ∧ s * (v0 * B - u0 * A) ≤ B ∧ s * (v0 * B - u0 * A) + s * (u1 * A - v1 * B) ≤ A := by
  rcases h.ph with ⟨e1, e2, _⟩ | ⟨e1, e2, _⟩ | ⟨e1, e2, e3, e4, e5, e6⟩
  · exact absurd e2 hv
  · exact absurd e2 hv
  · exact ⟨e2, e3, e4, e5, e6⟩
/-- nothing runs over -/
theorem Fore.small {A B x0 y0 x y u0 u1 u2 v0 v1 v2 s : Int} (h : Fore A B x0 y0 x y u0 u1 u2 v0 v1 v2 s) (hx : 1 ≤ x) : v2 ≤ x0 ∧ u2 ≤ y0 := by
  obtain ⟨n1, n2, n3⟩ := h.n0
  obtain ⟨m1, m2, m3⟩ := h.n1
  have a1 : v2 * 1 ≤ v2 * x := Int.mul_le_mul_of_nonneg_left hx (by omega)
  have a2 : u2 * 1 ≤ u2 * x := Int.mul_le_mul_of_nonneg_left hx n3
  have a3 := Int.mul_nonneg m2 h.h0
  have a4 := Int.mul_nonneg n2 h.h0
  have a5 := h.ix
  have a6 := h.iy
  omega
end Go.Proofs.YtnniipekcbjloaaDoor
/- Walks: timesPlus, combine. -/
namespace Go.Proofs.YtnniipekcbjloaaDoor
open Go.RowKit
set_option linter.unusedVariables false
set_option linter.unusedSimpArgs false
/-- u times the first k digits of x less v times those of y were laid into L from off on; what is carried, and borrowed -/
structure CombSt (q : Int) (L x y : List Int) (u v : Int) (off k : Nat) (cx cy bo : Int) (Lk : List Int) : Prop where
  len : Lk.length = L.length
  out : ∀ j, j < off ∨ off + k ≤ j → dig Lk j = dig L j
  wd : Wd q Lk
  x0 : 0 ≤ cx ∧ cx < q
  y0 : 0 ≤ cy ∧ cy < q
  b0 : 0 ≤ bo ∧ bo ≤ 1
  eq : V q Lk off k + (cx - cy - bo) * q ^ k = u * val q (x.take k) - v * val q (y.take k)
theorem CombSt.start {q : Int} (hq : 0 < q) {L x y : List Int} {u v : Int} (off : Nat) (h : Wd q L) : CombSt q L x y u v off 0 0 0 0 L :=
  ⟨rfl, fun _ _ => rfl, h, ⟨Int.le_refl _, hq⟩, ⟨Int.le_refl _, hq⟩, by decide, by simp [V_zero, val]⟩
theorem CombSt.step {q : Int} {L x y : List Int} {u v : Int} {off k : Nat} {cx cy bo : Int} {Lk : List Int} (h : CombSt q L x y u v off k cx cy bo Lk) (hk : off + k < L.length) {lx ly d cx' cy' b' : Int} (hd : 0 ≤ d ∧ d < q) (hx : 0 ≤ cx' ∧ cx' < q) (hy : 0 ≤ cy' ∧ cy' < q) (hb : 0 ≤ b' ∧ b' ≤ 1)
    (e1 : lx + cx' * q = dig x k * u + cx) (e2 : ly + cy' * q = dig y k * v + cy) (e3 : d + (-1) * (b' * q) = lx + (-1) * (ly + bo)) : CombSt q L x y u v off (k + 1) cx' cy' b' (Lk.set (off + k) d) := by
  have hl : off + k < Lk.length := by rw [h.len]; exact hk
  refine ⟨by simp [h.len], fun j hj => ?_, h.wd.set _ hd, hx, hy, hb, ?_⟩
  · rw [dig_set _ hl, if_neg (by omega)]; exact h.out j (by omega)
  · have f1 : V q (Lk.set (off + k) d) off k = V q Lk off k := V_congr fun j hj => by rw [dig_set _ hl, if_neg (by omega)]
    rw [V_succ, f1, dig_set _ hl, if_pos rfl, val_take_dig, val_take_dig, Int.pow_succ]
    have h1 := h.eq
    have f2 : q ^ k * (lx + cx' * q) = q ^ k * (dig x k * u + cx) := by rw [e1]
    have f3 : q ^ k * (ly + cy' * q) = q ^ k * (dig y k * v + cy) := by rw [e2]
    have f4 : q ^ k * (d + (-1) * (b' * q)) = q ^ k * (lx + (-1) * (ly + bo)) := by rw [e3]
    grind
end Go.Proofs.YtnniipekcbjloaaDoor
/- Walks: Rem64, modLimb. -/
namespace Go.Proofs.YtnniipekcbjloaaDoor
open Go.RowKit
set_option linter.unusedVariables false
set_option linter.unusedSimpArgs false
/-- the number of the digits from place k on -/
def up (q : Int) (zs : List Int) (k : Nat) : Int := val q (zs.drop k)
end Go.Proofs.YtnniipekcbjloaaDoor
/- The walk of foresee. -/
namespace Go.Proofs.YtnniipekcbjloaaDoor
open Go.RowKit
set_option linter.unusedVariables false
set_option linter.unusedSimpArgs false
/-- where the loop stands -/
def ForeAt (A B x0 y0 x y u0 u1 u2 v0 v1 v2 : Int) (odd : Bool) : Prop := Fore A B x0 y0 x y u0 u1 u2 v0 v1 v2 (if odd then 1 else -1) ∧ u0 < 18446744073709551616 ∧ u1 < 18446744073709551616 ∧ u2 < 18446744073709551616 ∧ v0 < 18446744073709551616 ∧ v1 < 18446744073709551616 ∧ v2 < 18446744073709551616
theorem odd_flip (odd : Bool) : -(if odd then (1 : Int) else -1) = (if !odd then 1 else -1) := by cases odd <;> rfl
theorem ForeAt.step {A B K al be x0 y0 x y u0 u1 u2 v0 v1 v2 q r : Int} {odd : Bool} (h : ForeAt A B x0 y0 x y u0 u1 u2 v0 v1 v2 odd) (hA : A = x0 * K + al) (hB : B = y0 * K + be) (ha0 : 0 ≤ al) (ha1 : al < K) (hb0 : 0 ≤ be) (hb1 : be < K) (hBp : 0 ≤ B) (hx0 : x0 < 18446744073709551616) (hyx : y0 ≤ x0)
    (c1 : v2 ≤ y) (c2 : v1 + v2 ≤ x - y) (hq : x / y = q) (hr : x % y = r) : ForeAt A B x0 y0 y r u1 u2 (u1 + q * u2) v1 v2 (v1 + q * v2) (!odd) ∧ (0 ≤ q ∧ 0 ≤ q * u2 ∧ 0 ≤ q * v2) := by
  obtain ⟨hF, b1, b2, b3, b4, b5, b6⟩ := h
  obtain ⟨n1, n2, n3⟩ := hF.n0
  obtain ⟨m1, m2, m3⟩ := hF.n1
  have hy1 : 1 ≤ y := by omega
  have hm := Int.mul_ediv_add_emod x y
  have hr0 := Int.emod_nonneg x (show y ≠ 0 by omega)
  have hr1 := Int.emod_lt_of_pos x (show 0 < y by omega)
  rw [hq, hr] at hm
  rw [hr] at hr0 hr1
  have hq1 : 1 ≤ q := by
    rcases Int.lt_or_le q 1 with e | e
    · have : y * q ≤ y * 0 := Int.mul_le_mul_of_nonneg_left (by omega) (by omega)
      have := hF.h1
      omega
    · exact e
  have hS := hF.step hA hB ha0 ha1 hb0 hb1 c1 c2 (q := q) (r := r) (by rw [Int.mul_comm q y]; omega) hr0 hr1 hq1 hBp
  have hsm := hS.small hy1
  rw [odd_flip] at hS
  exact ⟨⟨hS, b2, b3, by omega, b5, b6, by omega⟩, by omega, Int.mul_nonneg (by omega) n3, Int.mul_nonneg (by omega) (by omega)⟩
theorem ForeAt.sum {A B x0 y0 x y u0 u1 u2 v0 v1 v2 : Int} {odd : Bool} (h : ForeAt A B x0 y0 x y u0 u1 u2 v0 v1 v2 odd) (hx0 : x0 < 18446744073709551616) (c1 : v2 ≤ y) : v1 + v2 ≤ 18446744073709551615 := by
  obtain ⟨hF, _⟩ := h
  obtain ⟨m1, m2, m3⟩ := hF.n1
  have h1 := hF.h1
  have a1 : v2 * 1 ≤ v2 * x := Int.mul_le_mul_of_nonneg_left (by omega) (by omega)
  have a2 : v1 * 1 ≤ v1 * y := Int.mul_le_mul_of_nonneg_left (by omega) m2
  have a3 := hF.ix
  omega
end Go.Proofs.YtnniipekcbjloaaDoor
/- Walks: TrailingZeros64, limbDivisor. -/
namespace Go.Proofs.YtnniipekcbjloaaDoor
open Go.RowKit
set_option linter.unusedVariables false
set_option linter.unusedSimpArgs false
theorem two_parts {a b m n : Nat} (h : 2 ^ a * (2 * m + 1) = 2 ^ b * (2 * n + 1)) : a = b := by
  rcases Nat.lt_trichotomy a b with e | e | e
  · exfalso
    obtain ⟨d, rfl⟩ : ∃ d, b = a + (d + 1) := ⟨b - a - 1, by omega⟩
    rw [Nat.pow_add, Nat.mul_assoc] at h
    have := Nat.eq_of_mul_eq_mul_left (Nat.two_pow_pos a) h
    rw [Nat.pow_succ] at this
    have e2 : 2 ^ d * 2 * (2 * n + 1) = 2 * (2 ^ d * (2 * n + 1)) := by rw [Nat.mul_comm (2 ^ d) 2, Nat.mul_assoc]
    omega
  · exact e
  · exfalso
    obtain ⟨d, rfl⟩ : ∃ d, a = b + (d + 1) := ⟨a - b - 1, by omega⟩
    rw [Nat.pow_add, Nat.mul_assoc] at h
    have := Nat.eq_of_mul_eq_mul_left (Nat.two_pow_pos b) h
    rw [Nat.pow_succ] at this
    have e2 : 2 ^ d * 2 * (2 * m + 1) = 2 * (2 ^ d * (2 * m + 1)) := by rw [Nat.mul_comm (2 ^ d) 2, Nat.mul_assoc]
    omega
end Go.Proofs.YtnniipekcbjloaaDoor
/- Walks: division of long numbers once more: the rest's memory may be written, spare room too. -/
namespace Go.Proofs.YtnniipekcbjloaaDoor
open Go.RowKit
set_option linter.unusedVariables false
set_option linter.unusedSimpArgs false
/-- a slice whose whole room may be written -/
def Wide (w : World) (bo : Option Addr) (cb : Nat) : Prop := bo = none ∧ cb = 0 ∨ ∃ g off, bo = some ⟨g, off, none⟩ ∧ Room w g off cb
end Go.Proofs.YtnniipekcbjloaaDoor
/- The walk of shorten. -/
namespace Go.Proofs.YtnniipekcbjloaaDoor
open Go.RowKit
set_option linter.unusedVariables false
set_option linter.unusedSimpArgs false
/-- where shorten stands -/
structure ShAt (w wr : World) (X Y : Nat) (ga oa la ca : Nat) (bo : Option Addr) (lb cb gc oc cc gd od cd A B : Nat) : Prop where
  rowa : RowAt wr .u64 (some ⟨ga, oa, none⟩) la ca (mag A)
  rooma : Room wr ga oa ca
  rowb : RowAt wr .u64 bo lb cb (mag B)
  wideb : Wide wr bo cb
  roomc : Room wr gc oc cc
  roomd : Room wr gd od cd
  lc : la ≤ cc
  ld : la ≤ cd
  caps : ca ≤ 4294967296 ∧ cb ≤ 4294967296 ∧ cc ≤ 4294967296 ∧ cd ≤ 4294967296
  apart : ga ≠ gc ∧ ga ≠ gd ∧ gc ≠ gd
  apartb : ∀ g off, bo = some ⟨g, off, none⟩ → g ≠ ga ∧ g ≠ gc ∧ g ≠ gd ∧ w.heap.size ≤ g
  new : w.heap.size ≤ ga ∧ w.heap.size ≤ gc ∧ w.heap.size ≤ gd
  gcd : Nat.gcd A B = Nat.gcd X Y
  le : B ≤ A
  pos : 0 < A
  below : Below w.heap.size w wr
theorem row_wide {w : World} {g off l c : Nat} (h : Wide w (some ⟨g, off, none⟩) c) : Room w g off c := by
  rcases h with ⟨e, _⟩ | ⟨g', off', e, h⟩
  · cases e
  · cases e; exact h
theorem Wide.later {F : Nat → Nat → Prop} {w w' : World} {bo : Option Addr} {c : Nat} (h : Wide w bo c) (hc : Chg F w w') : Wide w' bo c := by
  rcases h with h | ⟨g, off, e, h⟩
  · exact Or.inl h
  · exact Or.inr ⟨g, off, e, h.later hc⟩
theorem ShAt.divided {w wr wd wd' : World} {X Y ga oa la ca gb ob lb cb gc oc cc gd od cd A B : Nat} (h : ShAt w wr X Y ga oa la ca (some ⟨gb, ob, none⟩) lb cb gc oc cc gd od cd A B) (hlba : lb ≤ la) (hB : 0 < B) (h1 : Below wr.heap.size wr wd) {ao : Option Addr} {l c : Nat}
    (ho : Own wd.heap.size wd' .u64 25 ao l c (mag (A % B))) (h2 : Below wd.heap.size wd wd') (hw : Wide wd' ao c) (hc : c ≤ lb) (hl : lb ≤ 4294967296) : ShAt w wd' X Y gb ob lb cb ao l c gc oc cc gd od cd B (A % B) := by
  have h3 := bnext h1 h2
  have hC : Chg (Fr 0 0 0) wr wd' := Chg.below h3
  have hmod := Nat.mod_lt A hB
  obtain ⟨n1, n2, n3⟩ := h.new
  obtain ⟨a1, a2, a3⟩ := h.apart
  obtain ⟨p1, p2, p3, p4⟩ := h.apartb gb ob rfl
  have l1 := h.rooma.lt
  have l2 := (row_wide (l := lb) h.wideb).lt
  have l3 := h.roomc.lt
  have l4 := h.roomd.lt
  have hs := h1.size
  refine ⟨h.rowb.later h3, (row_wide (l := lb) h.wideb).later hC, ho.row, hw, h.roomc.later hC, h.roomd.later hC, Nat.le_trans hlba h.lc, Nat.le_trans hlba h.ld, ⟨h.caps.2.1, by omega, h.caps.2.2.1, h.caps.2.2.2⟩, ⟨p2, p3, a3⟩, ?_, ⟨p4, n2, n3⟩, ?_, by omega, hB, bnext h.below h3⟩
  · intro g off e
    rcases ho with ⟨e2, _⟩ | ⟨g', off', cur, e2, hg', _⟩
    · rw [e2] at e; cases e
    · rw [e2] at e; cases e
      have := h.below.size
      exact ⟨by omega, by omega, by omega, by omega⟩
  · rw [Nat.gcd_comm B, ← Nat.gcd_rec, Nat.gcd_comm]; exact h.gcd
theorem RowAt.stays {F : Nat → Nat → Prop} {w w' : World} {b o len cap : Nat} {zs : List Int} (h : RowAt w .u64 (some ⟨b, o, none⟩) len cap zs) (hc : Chg F w w') (hF : ∀ t, t < len → ¬ F b (o + t)) : RowAt w' .u64 (some ⟨b, o, none⟩) len cap zs := by
  refine ⟨h.hlen, h.hcap, h.hnil, ?_⟩
  by_cases hp : 0 < len
  · obtain ⟨k1, k2⟩ := RowV.cells h hp
    refine Or.inr ⟨b, o, rfl, Nat.lt_of_lt_of_le k1 hc.size, fun t ht => ?_⟩
    rw [hc.cell b (o + t) k1 (hF t ht)]; exact k2 t ht
  · exact Or.inl (by omega)
theorem below_drewN {B : Nat} {a b : World} (h : Below B a b) (k : Nat) : Below B a (b.drewN k) := ⟨h.os, h.tape, h.output, h.size, h.block⟩
theorem RowV.drewN {w : World} {b o len cap : Nat} {v : Int} (h : RowV w (some ⟨b, o, none⟩) len cap v) (k : Nat) : RowV (w.drewN k) (some ⟨b, o, none⟩) len cap v :=
  h.later (F := Fr 0 0 0) ((Chg.refl _ _).drewN k) fun t ht hF => by have := hF.2; omega
end Go.Proofs.YtnniipekcbjloaaDoor
/- Walks: commonDivisor. -/
namespace Go.Proofs.YtnniipekcbjloaaDoor
open Go.RowKit
set_option linter.unusedVariables false
set_option linter.unusedSimpArgs false
end Go.Proofs.YtnniipekcbjloaaDoor
/- Walks: Gcd. -/
namespace Go.Proofs.YtnniipekcbjloaaDoor
open Go.RowKit
set_option linter.unusedVariables false
set_option linter.unusedSimpArgs false
end Go.Proofs.YtnniipekcbjloaaDoor
/- LE0 -/
namespace Go.Proofs.YtnniipekcbjloaaDoor
open Go.RowKit
set_option linter.unusedVariables false
set_option linter.unusedSimpArgs false
end Go.Proofs.YtnniipekcbjloaaDoor
/-
  CL, RB, RCa, RD, RC, RFa.
-/
/- Walks: slices.Clone of words. -/
namespace Go.Proofs.YtnniipekcbjloaaDoor
open Go.RowKit
set_option linter.unusedVariables false
set_option linter.unusedSimpArgs false
end Go.Proofs.YtnniipekcbjloaaDoor
/- Powers of 2 in a number, in plain. -/
namespace Go.Proofs.YtnniipekcbjloaaDoor
open Go.RowKit
set_option linter.unusedVariables false
set_option linter.unusedSimpArgs false
/-- 2 stands N times in n -/
def Twos (n N : Nat) : Prop := ∃ m, n = 2 ^ N * (2 * m + 1)
theorem Twos.one {n N M : Nat} (h : Twos n N) (k : Twos n M) : N = M := by
  obtain ⟨a, ha⟩ := h; obtain ⟨b, hb⟩ := k
  exact two_parts (ha.symm.trans hb)
end Go.Proofs.YtnniipekcbjloaaDoor
/- Walks: is it 1? -/
namespace Go.Proofs.YtnniipekcbjloaaDoor
open Go.RowKit
set_option linter.unusedVariables false
set_option linter.unusedSimpArgs false
end Go.Proofs.YtnniipekcbjloaaDoor
/- Walks: quotients without a rest, products, sums, copies of rat's own. -/
namespace Go.Proofs.YtnniipekcbjloaaDoor
open Go.RowKit
set_option linter.unusedVariables false
set_option linter.unusedSimpArgs false
end Go.Proofs.YtnniipekcbjloaaDoor
/- Walks: powers of 2, common divisors. -/
namespace Go.Proofs.YtnniipekcbjloaaDoor
open Go.RowKit
set_option linter.unusedVariables false
set_option linter.unusedSimpArgs false
end Go.Proofs.YtnniipekcbjloaaDoor
/- Rationals in variables: two handed in, a result to come; two numbers made beside each other. -/
namespace Go.Proofs.YtnniipekcbjloaaDoor
open Go.RowKit
set_option linter.unusedVariables false
set_option linter.unusedSimpArgs false
/-- a rational's result, not written yet -/
def Fresh3 (W : World) (r : Nat) : Prop := (∀ j, W.frozen? ⟨r, j, none⟩ = false) ∧ W.cell? ⟨r, 0, none⟩ = some (.bool false) ∧ W.cell? ⟨r, 1, none⟩ = some (.slice none 0 0) ∧ W.cell? ⟨r, 2, none⟩ = some (.slice none 0 0)
theorem Fresh3.later {W w2 : World} {B r : Nat} (k : Fresh3 W r) (h : Below B W w2) (hr : r < B) : Fresh3 w2 r :=
  ⟨fun j => (h.frozen (p := ⟨r, j, none⟩) hr).trans (k.1 j), (h.cell (p := ⟨r, 0, none⟩) hr).trans k.2.1, (h.cell (p := ⟨r, 1, none⟩) hr).trans k.2.2.1, (h.cell (p := ⟨r, 2, none⟩) hr).trans k.2.2.2⟩
/-- a rational that was handed in lies in a variable of its own -/
def Boxed3 (W : World) (r : Nat) (neg : Bool) (ao : Option Addr) (l c : Nat) (bo : Option Addr) (lb cb : Nat) : Prop := W.cell? ⟨r, 0, none⟩ = some (.bool neg) ∧ W.cell? ⟨r, 1, none⟩ = some (.slice ao l c) ∧ W.cell? ⟨r, 2, none⟩ = some (.slice bo lb cb)
theorem Boxed3.later {W w2 : World} {B r : Nat} {neg : Bool} {ao bo : Option Addr} {l c lb cb : Nat} (k : Boxed3 W r neg ao l c bo lb cb) (h : Below B W w2) (hr : r < B) : Boxed3 w2 r neg ao l c bo lb cb :=
  ⟨(h.cell (p := ⟨r, 0, none⟩) hr).trans k.1, (h.cell (p := ⟨r, 1, none⟩) hr).trans k.2.1, (h.cell (p := ⟨r, 2, none⟩) hr).trans k.2.2⟩
end Go.Proofs.YtnniipekcbjloaaDoor
/-
  JC, JD, JE.
-/
/- Walks: what is too heavy, what is a polynomial, equal ones, a row's copy. -/
namespace Go.Proofs.YtnniipekcbjloaaDoor
open Go.RowKit
set_option linter.unusedVariables false
set_option linter.unusedSimpArgs false
/-- is it a polynomial? -/
def pmayB (len : Nat) (rs : List (Bool × List Int)) : Bool := decide (len ≤ 1025) && (rs.all (fun r => mayB r.1 r.2) && (decide (len = 0) || decide ((rs.getD (len - 1) (false, [])).2 ≠ [])))
theorem pmayB_true {len : Nat} {rs : List (Bool × List Int)} (h : pmayB len rs = true) : len ≤ 1025 ∧ (∀ r ∈ rs, mayB r.1 r.2 = true) ∧ (0 < len → (rs.getD (len - 1) (false, [])).2 ≠ []) := by
  simp only [pmayB, Bool.and_eq_true, Bool.or_eq_true, decide_eq_true_eq, List.all_eq_true] at h
  exact ⟨h.1, h.2.1, fun h0 => by rcases h.2.2 with e | e; omega; exact e⟩
set_option maxRecDepth 100000 in
set_option maxHeartbeats 1000000 in
theorem pmay_any (ao : Option Addr) (len cap : Nat) (rs : List (Bool × List Int)) (w : World) (hr : RawsAt w ao len cap rs) (hl : len ≤ 4611686018427387904) (hlim : ∀ r ∈ rs, r.2.length ≤ 4611686018427387904) (c : Bool) (hc : pmayB len rs = c) :
    Calls Tryd.prog 8 #[.slice ao len cap] w fun e w' => e = .returned (.bool c) ∧ Below w.heap.size w w' := by
  by_cases hd : 1025 < len
  · obtain rfl : c = false := by rw [← hc]; unfold pmayB; rw [decide_eq_false (by omega)]; rfl
    have hd' : ((1025 : Int) < (len : Int)) := by omega
    clear hd hc
    go_enter Tryd.func8, Tryd.ntmps8
    go_wp2
    go_ret
    exact ⟨rfl, Below.refl _ _⟩
  · have hd' : ¬ ((1025 : Int) < (len : Int)) := by omega
    have HC : Hid (pmayB len rs = c ∧ len = rs.length ∧ ¬ (1025 < len)) := ⟨hc, hr.hlen, hd⟩
    have HR : Hid (RawsAt w ao len cap rs ∧ ∀ r ∈ rs, r.2.length ≤ 4611686018427387904) := ⟨hr, hlim⟩
    clear hr hc hd hlim
    go_enter Tryd.func8, Tryd.ntmps8
    go_wp2
    go_loopw [3] (fun i wr => ∃ k : Nat, k ≤ len ∧ i = .int .i64 k ∧ Below w.heap.size w wr ∧ ∀ t, (ht : t < rs.length) → t < k → mayB (rs[t]).1 (rs[t]).2 = true) (fun i _ => len - (intOf i).toNat)
    case atStart => exact ⟨0, Nat.zero_le _, rfl, Below.refl _ _, fun t _ ht => absurd ht (by omega)⟩
    case round =>
      obtain ⟨k, hk, rfl, hbel, hz⟩ := hrel
      have HZ : Hid (∀ t, (ht : t < rs.length) → t < k → mayB (rs[t]).1 (rs[t]).2 = true) := hz
      clear hz
      by_cases hlt : k < len
      · obtain ⟨b, off, rfl, hat⟩ := (HR.out.1.later hbel).get (by omega)
        have hkr : k < rs.length := by rw [← HC.out.2.1]; exact hlt
        obtain ⟨ao1, l1, c1, ⟨h0, h1⟩, hrow, hw⟩ := hat k hkr
        have hl1 : l1 ≤ 4611686018427387904 := by rw [hrow.hlen]; exact HR.out.2 _ (List.getElem_mem hkr)
        obtain ⟨m, hm⟩ : ∃ m, mayB (rs[k]).1 (rs[k]).2 = m := ⟨_, rfl⟩
        have HM : Hid (mayB (rs[k]).1 (rs[k]).2 = m) := hm
        obtain ⟨n1, hn1⟩ : ∃ n1, (rs[k]).1 = n1 := ⟨_, rfl⟩
        have hcon : Calls Tryd.prog 38 #[.agg #[.bool n1, .slice ao1 l1 c1]] wr fun e w' => e = .returned (.bool m) ∧ Below wr.heap.size wr w' := may_at n1 ao1 l1 c1 _ wr hrow hl1 m (by rw [← hn1]; exact hm)
        rw [hn1] at h0
        have HK : Hid (k < rs.length) := hkr
        clear hn1 hat hrow hw hm hl1
        cases m
        · obtain rfl : c = false := by
            rw [← HC.out.1]; unfold pmayB
            rw [Bool.and_eq_false_iff]; right
            rw [Bool.and_eq_false_iff]; left
            rw [List.all_eq_false]
            exact ⟨rs[k]'HK.out, List.getElem_mem HK.out, by rw [HM.out]; decide⟩
          go_wp2_with (go_at_call 38; refine hcon.mono ?_; rintro e w1 ⟨rfl, hb1⟩)
          go_ret
          exact ⟨rfl, bnext hbel hb1⟩
        · go_wp2_with (go_at_call 38; refine hcon.mono ?_; rintro e w1 ⟨rfl, hb1⟩)
          go_roundw
          case rel => exact ⟨k + 1, by omega, by go_num, bnext hbel hb1, fun t ht htk => by
            by_cases e : t = k
            · subst e; exact HM.out
            · exact HZ.out t ht (by omega)⟩
          case measure => simp [intOf]; omega
      · obtain rfl : k = len := by omega
        have hall : rs.all (fun r => mayB r.1 r.2) = true := by
          rw [List.all_eq_true]
          intro r hr
          obtain ⟨t, ht, rfl⟩ := List.getElem_of_mem hr
          exact HZ.out t ht (by rw [HC.out.2.1]; exact ht)
        have HC2 : Hid ((decide (k = 0) || decide ((rs.getD (k - 1) (false, [])).2 ≠ [])) = c) := by
          show _ = _
          rw [← HC.out.1]; unfold pmayB
          rw [hall, decide_eq_true (by have := HC.out.2.2; omega : k ≤ 1025)]; rfl
        clear hall
        by_cases h0 : k = 0
        · subst h0
          obtain rfl : c = true := by rw [← HC2.out]; simp
          go_wp2
          go_ret
          exact ⟨rfl, hbel⟩
        · have hn0 : ((k : Int) == 0) = false := by simp; omega
          obtain ⟨b, off, rfl, hat⟩ := (HR.out.1.later hbel).get (by omega)
          have hkr : k - 1 < rs.length := by rw [← HC.out.2.1]; omega
          obtain ⟨ao1, l1, c1, ⟨h0', h1'⟩, hrow, hw⟩ := hat (k - 1) hkr
          obtain ⟨n1, hn1⟩ : ∃ n1, (rs[k - 1]).1 = n1 := ⟨_, rfl⟩
          rw [hn1] at h0'
          have hcz : Hid (((l1 : Int) == 0) = !c) := by
            show _ = _
            rw [← HC2.out, decide_eq_false h0, Bool.false_or, List.getD_eq_getElem?_getD, List.getElem?_eq_getElem hkr, Option.getD_some]
            have := hrow.hlen
            by_cases e : (rs[k - 1]).2 = []
            · rw [decide_eq_false (by simpa using e)]; rw [e] at this; subst this; rfl
            · rw [decide_eq_true e]
              have : l1 ≠ 0 := fun e2 => e (List.eq_nil_of_length_eq_zero (by omega))
              simp; omega
          have hidx : (k : Int) - 1 = ((k - 1 : Nat) : Int) := by omega
          have hcon : ∀ W', Calls Tryd.prog 39 #[.agg #[.bool n1, .slice ao1 l1 c1]] W' fun e w' => e = .returned (.bool (!c)) ∧ Below W'.heap.size W' w' := fun W' => rzero_any n1 ao1 l1 c1 W' (!c) hcz.out
          have hk1 : k - 1 < k := by omega
          clear hn1 hat hrow hw hkr h0
          go_wp2_with (go_at_call 39; refine (hcon _).mono ?_; rintro e w1 ⟨rfl, hb1⟩)
          go_ret
          exact ⟨by simp, bnext hbel hb1⟩
end Go.Proofs.YtnniipekcbjloaaDoor
/- Walks: a polynomial is checked; a row's copy; sums and products of coefficients. -/
namespace Go.Proofs.YtnniipekcbjloaaDoor
open Go.RowKit
set_option linter.unusedVariables false
set_option linter.unusedSimpArgs false
set_option maxRecDepth 100000 in
set_option maxHeartbeats 1000000 in
theorem isZero_any (neg : Bool) (ao : Option Addr) (len cap : Nat) (w : World) (c : Bool) (hc : ((len : Int) == 0) = c) :
    Calls Tryd.prog 74 #[.agg #[.bool neg, .slice ao len cap]] w fun e w' => e = .returned (.bool c) ∧ Below w.heap.size w w' := by
  go_enter Tryd.func74, Tryd.ntmps74
  go_wp2
  go_ret
  exact ⟨rfl, (Below.refl _ _).alloc (Nat.le_refl _) _⟩
end Go.Proofs.YtnniipekcbjloaaDoor
/- Walks: a polynomial's copy in memory of the call's own. -/
namespace Go.Proofs.YtnniipekcbjloaaDoor
open Go.RowKit
set_option linter.unusedVariables false
set_option linter.unusedSimpArgs false
/-- copied up to place k, 0 behind -/
def CpSt (p : List Int) (k : Nat) (l : List Int) : Prop := l.length = p.length ∧ ∀ t, t < p.length → dig l t = if t < k then dig p t else 0
theorem CpSt.start (p : List Int) : CpSt p 0 (List.replicate p.length 0) := ⟨by simp, fun t ht => by rw [rep_dig, if_neg (by omega)]⟩
theorem CpSt.step {p l : List Int} {k : Nat} (h : CpSt p k l) (hk : k < p.length) : CpSt p (k + 1) (l.set k (dig p k)) := by
  refine ⟨by simpa using h.1, fun t ht => ?_⟩
  rw [pdig_set _ _ _ _ (by rw [h.1]; exact ht)]
  by_cases e : t = k
  · subst e; rw [if_pos rfl, if_pos (by omega)]
  · rw [if_neg e, h.2 t ht]
    by_cases e2 : t < k
    · rw [if_pos e2, if_pos (by omega)]
    · rw [if_neg e2, if_neg (by omega)]
theorem CpSt.skip {p l : List Int} {k : Nat} (h : CpSt p k l) (hk : k < p.length) (h0 : dig p k = 0) : CpSt p (k + 1) l := by
  refine ⟨h.1, fun t ht => ?_⟩
  rw [h.2 t ht]
  by_cases e : t = k
  · subst e; rw [if_neg (by omega), if_pos (by omega), h0]
  · by_cases e2 : t < k
    · rw [if_pos e2, if_pos (by omega)]
    · rw [if_neg e2, if_neg (by omega)]
theorem CpSt.done {p l : List Int} (h : CpSt p p.length l) : l = p := dig_ext h.1 fun t ht => by rw [h.1] at ht; rw [h.2 t ht, if_pos ht]
end Go.Proofs.YtnniipekcbjloaaDoor
/-
  Walks: a copy, an answer held against the page's, what is refused.
-/
namespace Go.Proofs.YtnniipekcbjloaaDoor
open Go.RowKit
set_option linter.unusedVariables false
set_option linter.unusedSimpArgs false
theorem RowAt.cellKept {w : World} {k : IntKind} {ao : Option Addr} {len cap r j : Nat} {zs : List Int} {v : Value} (h : RowAt w k ao len cap zs) (hv : w.cell? ⟨r, j, none⟩ = some v) (hn : ∀ z, v ≠ .int k z) (x : Value) : RowAt (w.setCell ⟨r, j, none⟩ x) k ao len cap zs := by
  refine ⟨h.hlen, h.hcap, h.hnil, ?_⟩
  rcases h.hat with h0 | ⟨b, off, h1, hlt, h2⟩
  · exact Or.inl h0
  · refine Or.inr ⟨b, off, h1, by simpa [World.setCell] using hlt, fun t ht => ?_⟩
    have hc := h2 t ht
    rw [setCell_ne]
    · exact hc
    · rintro ⟨e1, e2⟩
      simp only at e1 e2
      rw [e1, e2, hv] at hc
      exact hn _ (Option.some.inj hc)
theorem own_of_owns {w : World} {B : Nat} {t : TypeId} {k : IntKind} {v : Value} {n : Nat} {L : List Int} (hl : L.length = n) (h : w.ownsRow B t 1 v n (L.map (Value.int k))) : ∃ ao cap, v = .slice ao n cap ∧ Own B w k t ao n cap L := by
  rcases h.2 with ⟨hv, h0⟩ | ⟨g, cap, cur, hv, hg, hh, hc1, _, hs, ht⟩
  · subst hv; subst h0
    exact ⟨none, 0, rfl, Or.inl ⟨rfl, rfl, rfl, List.eq_nil_of_length_eq_zero hl⟩⟩
  · refine ⟨_, _, hv, Or.inr ⟨g, 0, cur, rfl, hg, hh, by omega, hc1, hl, fun j hj => ?_⟩⟩
    have hjl : j < L.length := by omega
    have e2 : L[j]? = some (dig L j) := by unfold dig; rw [List.getD_eq_getElem?_getD, List.getElem?_eq_getElem hjl]; rfl
    have e1 : (cur.toList.take (n * 1))[j]? = some (.int k (dig L j)) := by rw [ht, List.getElem?_map, e2]; rfl
    rw [List.getElem?_take_of_lt (show j < n * 1 by omega)] at e1
    rw [Nat.zero_add]
    simpa using e1
end Go.Proofs.YtnniipekcbjloaaDoor
