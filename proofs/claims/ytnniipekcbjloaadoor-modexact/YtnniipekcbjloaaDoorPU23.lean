/-
  Polynomials: what is left without noughts at the end; tables; lists of the call's own with numbers of the call's own; lists made by append.
-/
import Derived.Test.YtnniipekcbjloaaDoorPU22
namespace Go.Proofs.YtnniipekcbjloaaDoor
open Go.RowKit
set_option linter.unusedVariables false
set_option linter.unusedSimpArgs false
/-- a table -/
def tab (n : Nat) (f : Nat → Int) : List Int := (List.range n).map f
theorem tab_len (n : Nat) (f : Nat → Int) : (tab n f).length = n := by simp [tab]
theorem tab_dig {n t : Nat} (f : Nat → Int) (h : t < n) : dig (tab n f) t = f t := by
  unfold tab dig
  rw [List.getD_eq_getElem?_getD, List.getElem?_map, List.getElem?_range h]; rfl
/-- a table filled up to place k, 0 behind -/
def FillSt (n : Nat) (f : Nat → Int) (k : Nat) (l : List Int) : Prop := l.length = n ∧ ∀ t, t < n → dig l t = if t < k then f t else 0
theorem FillSt.start (n : Nat) (f : Nat → Int) : FillSt n f 0 (List.replicate n 0) := ⟨by simp, fun t ht => by rw [rep_dig, if_neg (by omega)]⟩
theorem FillSt.step {n : Nat} {f : Nat → Int} {k : Nat} {l : List Int} (h : FillSt n f k l) (hk : k < n) : FillSt n f (k + 1) (l.set k (f k)) := by
  refine ⟨by simpa using h.1, fun t ht => ?_⟩
  rw [pdig_set _ _ _ _ (by rw [h.1]; exact ht)]
  by_cases e : t = k
  · subst e; rw [if_pos rfl, if_pos (by omega)]
  · rw [if_neg e, h.2 t ht]
    by_cases e2 : t < k
    · rw [if_pos e2, if_pos (by omega)]
    · rw [if_neg e2, if_neg (by omega)]
theorem FillSt.done {n : Nat} {f : Nat → Int} {l : List Int} (h : FillSt n f n l) : l = tab n f :=
  dig_ext (by rw [h.1, tab_len]) fun t ht => by rw [h.1] at ht; rw [h.2 t ht, if_pos ht, tab_dig _ ht]
/-- a number of the call's own lies at o in block g -/
def CoefO (B : Nat) (w : World) (g o : Nat) (v : Int) : Prop := ∃ n ao l c, (w.cell? ⟨g, o, none⟩ = some (.bool n) ∧ w.cell? ⟨g, o + 1, none⟩ = some (.slice ao l c)) ∧ n = sgB v ∧ Own B w .u64 25 ao l c (mag v.natAbs)
theorem CoefO.coef {B : Nat} {w : World} {g o : Nat} {v : Int} (h : CoefO B w g o v) : CoefAt w g o v := by
  obtain ⟨n, ao, l, c, hc, hs, ho⟩ := h
  exact ⟨n, ao, l, c, hc, ho.int hs⟩
/-- a list of the call's own, whose numbers lie in blocks of their own -/
structure PBlkO (B : Nat) (w : World) (g : Nat) (p : List Int) : Prop where
  soft : ∀ j, w.frozen? ⟨g, j, none⟩ = false
  coef : ∀ t, t < p.length → CoefO B w g (t * 2) (dig p t)
  apart : ∀ s t, s < p.length → t < p.length → s ≠ t → ∀ (a b : Addr) (l l' c c' : Nat), w.cell? ⟨g, s * 2 + 1, none⟩ = some (.slice (some a) l c) → w.cell? ⟨g, t * 2 + 1, none⟩ = some (.slice (some b) l' c') → a.block ≠ b.block
  away : ∀ t, t < p.length → ∀ (a : Addr) (l c : Nat), w.cell? ⟨g, t * 2 + 1, none⟩ = some (.slice (some a) l c) → a.block ≠ g
theorem PBlkO.blk {B : Nat} {w : World} {g : Nat} {p : List Int} (h : PBlkO B w g p) : PBlk w g p := ⟨h.soft, fun t ht => (h.coef t ht).coef⟩
theorem PBlkO.later {B : Nat} {w w' : World} {g : Nat} {p : List Int} (h : PBlkO B w g p) (hb : Below w.heap.size w w') (hg : g < w.heap.size) : PBlkO B w' g p := by
  have e : ∀ j, w'.cell? ⟨g, j, none⟩ = w.cell? ⟨g, j, none⟩ := fun j => hb.cell (p := ⟨g, j, none⟩) hg
  refine ⟨fun j => (hb.frozen (p := ⟨g, j, none⟩) hg).trans (h.soft j), fun t ht => ?_, fun s t hs ht hn a b l l' c c' h1 h2 => h.apart s t hs ht hn a b l l' c c' (by rw [← e]; exact h1) (by rw [← e]; exact h2), fun t ht a l c h1 => h.away t ht a l c (by rw [← e]; exact h1)⟩
  obtain ⟨n, ao, l, c, ⟨h0, h1⟩, hs, ho⟩ := h.coef t ht
  exact ⟨n, ao, l, c, ⟨(e _).trans h0, (e _).trans h1⟩, hs, ho.later hb⟩
theorem PBlkO.take {B : Nat} {w : World} {g : Nat} {p : List Int} (h : PBlkO B w g p) (n : Nat) : PBlkO B w g (p.take n) := by
  have hl : ∀ t, t < (p.take n).length → t < p.length ∧ t < n := fun t ht => by rw [List.length_take] at ht; omega
  exact ⟨h.soft, fun t ht => by rw [dig_take (hl t ht).2]; exact h.coef t (hl t ht).1, fun s t hs ht => h.apart s t (hl s hs).1 (hl t ht).1, fun t ht => h.away t (hl t ht).1⟩
theorem PBlkO.mono {B B' : Nat} {w : World} {g : Nat} {p : List Int} (h : PBlkO B w g p) (hB : B' ≤ B) : PBlkO B' w g p := by
  refine ⟨h.soft, fun t ht => ?_, h.apart, h.away⟩
  obtain ⟨n, ao, l, c, hc, hs, ho⟩ := h.coef t ht
  exact ⟨n, ao, l, c, hc, hs, ho.mono hB⟩
theorem own_lt {B : Nat} {w : World} {k : IntKind} {t : TypeId} {a : Addr} {l c : Nat} {zs : List Int} (h : Own B w k t (some a) l c zs) : B ≤ a.block ∧ a.block < w.heap.size := by
  rcases h with ⟨h, _⟩ | ⟨g, off, cur, h1, h2, h3, _⟩
  · cases h
  · cases h1; exact ⟨h2, heap_lt h3⟩
/-- a new number put into the list -/
theorem PBlkO.put {B : Nat} {w w1 : World} {g t l c : Nat} {n : Bool} {ao : Option Addr} {p : List Int} {v : Int} (h : PBlkO B w g p) (hb : Below w.heap.size w w1) (hg : g < w.heap.size) (hB : B ≤ w.heap.size) (ht : t < p.length) (hsg : n = sgB v) (ho : Own w.heap.size w1 .u64 25 ao l c (mag v.natAbs)) : PBlkO B ((w1.setCell ⟨g, t * 2, none⟩ (.bool n)).setCell ⟨g, t * 2 + 1, none⟩ (.slice ao l c)) g (p.set t v) := by
  have h1 := h.later hb hg
  obtain ⟨n0, ao0, l0, c0, ⟨e0, e1⟩, _⟩ := h1.coef t ht
  have hne : ∀ {b : Nat}, b ≠ g → ∀ (x y : Value) (i j : Nat), ((w1.setCell ⟨g, i, none⟩ x).setCell ⟨g, j, none⟩ y).heap[b]? = w1.heap[b]? := fun hb x y i j => by
    rw [Below.heap_setCell _ ⟨g, j, none⟩ y _ hb, Below.heap_setCell _ ⟨g, i, none⟩ x _ hb]
  have keep : ∀ {B' : Nat} {bo : Option Addr} {k d : Nat} {zs : List Int}, (∀ a : Addr, bo = some a → a.block ≠ g) → Own B' w1 .u64 25 bo k d zs → Own B' ((w1.setCell ⟨g, t * 2, none⟩ (.bool n)).setCell ⟨g, t * 2 + 1, none⟩ (.slice ao l c)) .u64 25 bo k d zs := by
    intro B' bo k d zs ha hO
    rcases hO with hO | ⟨g', off, cur, q1, q2, q3, q4⟩
    · exact Or.inl hO
    · exact Or.inr ⟨g', off, cur, q1, q2, by rw [hne (ha _ q1)]; exact q3, q4⟩
  have hnew : ∀ a : Addr, ao = some a → w.heap.size ≤ a.block := fun a ha => by subst ha; exact (own_lt ho).1
  have c0' : ((w1.setCell ⟨g, t * 2, none⟩ (.bool n)).setCell ⟨g, t * 2 + 1, none⟩ (.slice ao l c)).cell? ⟨g, t * 2 + 1, none⟩ = some (.slice ao l c) := by simp [go_sem, e0, e1]
  have c1' : ∀ s, s ≠ t → ((w1.setCell ⟨g, t * 2, none⟩ (.bool n)).setCell ⟨g, t * 2 + 1, none⟩ (.slice ao l c)).cell? ⟨g, s * 2 + 1, none⟩ = w1.cell? ⟨g, s * 2 + 1, none⟩ := fun s hs => by
    rw [setCell_ne (by rintro ⟨_, h⟩; simp only at h; omega), setCell_ne (by rintro ⟨_, h⟩; simp only at h; omega)]
  have c2' : ∀ s, s ≠ t → ((w1.setCell ⟨g, t * 2, none⟩ (.bool n)).setCell ⟨g, t * 2 + 1, none⟩ (.slice ao l c)).cell? ⟨g, s * 2, none⟩ = w1.cell? ⟨g, s * 2, none⟩ := fun s hs => by
    rw [setCell_ne (by rintro ⟨_, h⟩; simp only at h; omega), setCell_ne (by rintro ⟨_, h⟩; simp only at h; omega)]
  have old : ∀ s, s < p.length → ∀ (a : Addr) (k d : Nat), w1.cell? ⟨g, s * 2 + 1, none⟩ = some (.slice (some a) k d) → a.block < w.heap.size := by
    intro s hs a k d hc
    obtain ⟨m, bo, k', d', ⟨_, q1⟩, _, hO⟩ := h.coef s hs
    have q2 := (hb.cell (p := ⟨g, s * 2 + 1, none⟩) hg).trans q1
    rw [hc] at q2
    simp only [Option.some.injEq, Value.slice.injEq] at q2
    obtain ⟨q3, _⟩ := q2
    subst q3
    exact (own_lt hO).2
  refine ⟨fun j => by rw [soft_far, soft_far]; exact h1.soft j, fun s hs => ?_, fun s u hs hu hn a b k k' d d' q1 q2 => ?_, fun s hs a k d q1 => ?_⟩
  · rw [List.length_set] at hs
    rw [pdig_set _ _ _ _ hs]
    by_cases e : s = t
    · subst e
      rw [if_pos rfl]
      exact ⟨n, ao, l, c, ⟨by simp [go_sem, e0, e1], c0'⟩, hsg, keep (fun a ha => by have := hnew a ha; omega) (ho.mono hB)⟩
    · rw [if_neg e]
      obtain ⟨m, bo, k, d, ⟨q0, q1⟩, q2, hO⟩ := h1.coef s hs
      exact ⟨m, bo, k, d, ⟨by rw [c2' s e]; exact q0, by rw [c1' s e]; exact q1⟩, q2, keep (fun a ha => by subst ha; exact h1.away s hs a k d q1) hO⟩
  · rw [List.length_set] at hs hu
    by_cases e1 : s = t
    · subst e1
      rw [c0'] at q1
      rw [c1' u (Ne.symm hn)] at q2
      simp only [Option.some.injEq, Value.slice.injEq] at q1
      have := hnew a q1.1
      have := old u hu b k' d' q2
      omega
    · rw [c1' s e1] at q1
      by_cases e2 : u = t
      · subst e2
        rw [c0'] at q2
        simp only [Option.some.injEq, Value.slice.injEq] at q2
        have := hnew b q2.1
        have := old s hs a k d q1
        omega
      · rw [c1' u e2] at q2
        exact h1.apart s u hs hu hn a b k k' d d' q1 q2
  · rw [List.length_set] at hs
    by_cases e : s = t
    · subst e
      rw [c0'] at q1
      simp only [Option.some.injEq, Value.slice.injEq] at q1
      have := hnew a q1.1
      omega
    · rw [c1' s e] at q1
      exact h1.away s hs a k d q1
/-- a polynomial of the call's own: what a call hands back -/
def POwn (B : Nat) (w : World) (ao : Option Addr) (len cap : Nat) (p : List Int) : Prop :=
  len = p.length ∧ cap = len ∧ ((len = 0 ∧ ao = none) ∨ (0 < len ∧ ∃ g, ao = some ⟨g, 0, none⟩ ∧ B ≤ g ∧ g < w.heap.size ∧ PBlkO B w g p))
theorem POwn.nil (B : Nat) (w : World) : POwn B w none 0 0 [] := ⟨rfl, rfl, Or.inl ⟨rfl, rfl⟩⟩
theorem POwn.later {B : Nat} {w w' : World} {ao : Option Addr} {len cap : Nat} {p : List Int} (h : POwn B w ao len cap p) (hb : Below w.heap.size w w') : POwn B w' ao len cap p := by
  obtain ⟨h1, h2, h3⟩ := h
  refine ⟨h1, h2, ?_⟩
  rcases h3 with h3 | ⟨h0, g, h4, h5, h6, hp⟩
  · exact Or.inl h3
  · exact Or.inr ⟨h0, g, h4, h5, Nat.lt_of_lt_of_le h6 hb.size, hp.later hb h6⟩
theorem POwn.mono {B B' : Nat} {w : World} {ao : Option Addr} {len cap : Nat} {p : List Int} (h : POwn B w ao len cap p) (hB : B' ≤ B) : POwn B' w ao len cap p := by
  obtain ⟨h1, h2, h3⟩ := h
  refine ⟨h1, h2, ?_⟩
  rcases h3 with h3 | ⟨h0, g, h4, h5, h6, hp⟩
  · exact Or.inl h3
  · exact Or.inr ⟨h0, g, h4, Nat.le_trans hB h5, h6, hp.mono hB⟩
end Go.Proofs.YtnniipekcbjloaaDoor
/-
  Walks: the page's product of polynomials.
-/
namespace Go.Proofs.YtnniipekcbjloaaDoor
open Go.RowKit
set_option linter.unusedVariables false
set_option linter.unusedSimpArgs false
theorem PolyAt.at {w : World} {ao : Option Addr} {len cap k : Nat} {p : List Int} (h : PolyAt w ao len cap p) (hk : k < len) : ∃ b off n1 ao1 l1 c1, ao = some ⟨b, off, none⟩ ∧ w.cell? ⟨b, off + k * 2, none⟩ = some (.bool n1) ∧ w.cell? ⟨b, off + k * 2 + 1, none⟩ = some (.slice ao1 l1 c1) ∧ IntAt w n1 ao1 l1 c1 (dig p k) := by
  obtain ⟨b, off, h1, hat⟩ := h.get (by omega)
  obtain ⟨n1, ao1, l1, c1, ⟨h0, h1'⟩, hi⟩ := hat k hk
  exact ⟨b, off, n1, ao1, l1, c1, h1, h0, h1', hi⟩
end Go.Proofs.YtnniipekcbjloaaDoor
/-
  Lists that are made by append, of numbers of the call's own; the page's At, Trim, Plus, Scale, Neg, Less, Der, Lead, Cmp.
-/
namespace Go.Proofs.YtnniipekcbjloaaDoor
open Go.RowKit
set_option linter.unusedVariables false
set_option linter.unusedSimpArgs false
/-- the elements of a list made by append -/
def Elems (B : Nat) (w : World) (xs : List Value) (rs : List (Bool × List Int)) : Prop := ∀ t, (ht : t < rs.length) → ∃ ao l c, xs[t * 2]? = some (.bool (rs[t]).1) ∧ xs[t * 2 + 1]? = some (.slice ao l c) ∧ Own B w .u64 25 ao l c (rs[t]).2
def LRow (B : Nat) (w : World) (v : Value) (rs : List (Bool × List Int)) : Prop := ∃ xs, w.ownsRow B 65 2 v rs.length xs ∧ Elems B w xs rs
theorem LRow.nil (B : Nat) (w : World) : LRow B w (.slice none 0 0) [] := ⟨[], World.ownsRow_nil _ _ _ _, fun t ht => absurd ht (by simp)⟩
theorem Elems.later {B : Nat} {w w' : World} {xs : List Value} {rs : List (Bool × List Int)} (h : Elems B w xs rs) (hb : Below w.heap.size w w') : Elems B w' xs rs := fun t ht => by
  obtain ⟨ao, l, c, h0, h1, h2⟩ := h t ht
  exact ⟨ao, l, c, h0, h1, h2.later hb⟩
theorem lrow_cells {B n : Nat} {w : World} {v : Value} {xs : List Value} (h : w.ownsRow B 65 2 v n xs) : ∃ ao cap, v = .slice ao n cap ∧ n ≤ cap ∧ (ao = none → cap = 0) ∧ (n = 0 ∨ ∃ g, ao = some ⟨g, 0, none⟩ ∧ ∀ j u, xs[j]? = some u → w.cell? ⟨g, j, none⟩ = some u) := by
  obtain ⟨hl, h⟩ := h
  rcases h with ⟨rfl, rfl⟩ | ⟨g, cap, cur, rfl, _, hh, hc, _, hs, ht⟩
  · exact ⟨none, 0, rfl, Nat.le_refl _, fun _ => rfl, Or.inl rfl⟩
  · refine ⟨_, cap, rfl, hc, fun e => (by cases e), Or.inr ⟨g, rfl, fun j u hj => ?_⟩⟩
    rw [← ht] at hj
    have hj2 : j < n * 2 := by
      rcases Nat.lt_or_ge j (n * 2) with q | q
      · exact q
      · rw [List.getElem?_eq_none (by simp; omega)] at hj; cases hj
    rw [List.getElem?_take_of_lt hj2] at hj
    simp [World.cell?, hh]
    simpa using hj
theorem LRow.raws {B : Nat} {w : World} {v : Value} {rs : List (Bool × List Int)} (h : LRow B w v rs) (hw : ∀ r ∈ rs, Wd 18446744073709551616 r.2) : ∃ ao cap, v = .slice ao rs.length cap ∧ RawsAt w ao rs.length cap rs := by
  obtain ⟨xs, ho, hx⟩ := h
  obtain ⟨ao, cap, hv, hc, hn, hat⟩ := lrow_cells ho
  refine ⟨ao, cap, hv, rfl, hc, hn, ?_⟩
  rcases hat with h0 | ⟨g, hg, hcell⟩
  · exact Or.inl h0
  · refine Or.inr ⟨g, 0, hg, fun t ht => ?_⟩
    obtain ⟨ao', l', c', h0, h1, h2⟩ := hx t ht
    rw [Nat.zero_add]
    exact ⟨ao', l', c', ⟨hcell _ _ h0, hcell _ _ h1⟩, h2.row, hw _ (List.getElem_mem ht)⟩
theorem PolyAt.kept {w : World} {ao : Option Addr} {len cap r : Nat} {p : List Int} (h : PolyAt w ao len cap p) (hf : Fresh w r) (hne : ∀ a : Addr, ao = some a → a.block ≠ r) (x y : Value) : PolyAt ((w.setCell ⟨r, 0, none⟩ x).setCell ⟨r, 1, none⟩ y) ao len cap p := by
  refine ⟨h.hlen, h.hcap, h.hnil, ?_⟩
  rcases h.hat with h0 | ⟨b, off, h1, h2⟩
  · exact Or.inl h0
  · refine Or.inr ⟨b, off, h1, fun t ht => ?_⟩
    have hb := hne _ h1
    obtain ⟨n, ao', l, c, ⟨q0, q1⟩, hi⟩ := h2 t ht
    exact ⟨n, ao', l, c, ⟨by rw [setCell_ne (fun e => hb e.1), setCell_ne (fun e => hb e.1)]; exact q0, by rw [setCell_ne (fun e => hb e.1), setCell_ne (fun e => hb e.1)]; exact q1⟩, hi.sg, hi.row.kept hf _ _⟩
end Go.Proofs.YtnniipekcbjloaaDoor
/-
  Walks: poly's small ones: sums, differences, products of numbers, a coefficient, room, what is trimmed; Check of whatever lies there.
-/
namespace Go.Proofs.YtnniipekcbjloaaDoor
open Go.RowKit
set_option linter.unusedVariables false
set_option linter.unusedSimpArgs false
/-- the t-th of a list -/
def rv (rs : List (Bool × List Int)) (t : Nat) : Bool × List Int := rs.getD t (false, [])
theorem rv_eq {rs : List (Bool × List Int)} {t : Nat} (h : t < rs.length) : rv rs t = rs[t] := by unfold rv; rw [List.getD_eq_getElem?_getD, List.getElem?_eq_getElem h]; rfl
theorem RawsAt.at {w : World} {ao : Option Addr} {len cap k : Nat} {rs : List (Bool × List Int)} (h : RawsAt w ao len cap rs) (hk : k < len) : ∃ b off n1 ao1 l1 c1, ao = some ⟨b, off, none⟩ ∧ w.cell? ⟨b, off + k * 2, none⟩ = some (.bool n1) ∧ w.cell? ⟨b, off + k * 2 + 1, none⟩ = some (.slice ao1 l1 c1) ∧ n1 = (rv rs k).1 ∧ RowAt w .u64 ao1 l1 c1 (rv rs k).2 ∧ Wd 18446744073709551616 (rv rs k).2 := by
  have hk2 : k < rs.length := by rw [← h.hlen]; exact hk
  obtain ⟨b, off, h1, hat⟩ := h.get (by omega)
  obtain ⟨ao1, l1, c1, ⟨h0, h1'⟩, hr, hw⟩ := hat k hk2
  rw [rv_eq hk2]
  exact ⟨b, off, _, ao1, l1, c1, h1, h0, h1', rfl, hr, hw⟩
set_option maxRecDepth 100000 in
set_option maxHeartbeats 2000000 in
theorem pcheck_is (ao : Option Addr) (len cap : Nat) (rs : List (Bool × List Int)) (w : World) (hr : RawsAt w ao len cap rs) (hl : len ≤ 1000) (hlim : ∀ t, (rv rs t).2.length ≤ 100000) (c : Int) (hc : (if pmayB len rs then 0 else 50 : Int) = c) :
    Calls Tryd.prog 56 #[.slice ao len cap] w fun e w' => e = .returned (.int .i64 c) ∧ Below w.heap.size w w' := by
  have hl1 : ¬ ((1025 : Int) < (len : Int)) := by omega
  have HR : Hid (RawsAt w ao len cap rs ∧ (∀ t, (rv rs t).2.length ≤ 100000) ∧ len = rs.length) := ⟨hr, hlim, hr.hlen⟩
  clear hr hlim
  by_cases h0 : len = 0
  · subst h0
    obtain rfl : rs = [] := List.eq_nil_of_length_eq_zero HR.out.2.2.symm
    obtain rfl : c = 0 := by rw [← hc]; rfl
    clear hc
    go_enter Tryd.func56, Tryd.ntmps56
    go_wp2
    go_loopw [24] (fun i wr => i = .int .i64 0 ∧ wr = w) (fun i _ => 0)
    case atStart => exact ⟨rfl, rfl⟩
    case round =>
      obtain ⟨rfl, rfl⟩ := hrel
      go_wp2
      go_ret
      exact ⟨rfl, Below.refl _ _⟩
  · obtain ⟨b, off, n1, ao1, l1, c1, rfl, h1, h2, hn1, hrow, hw1⟩ := HR.out.1.at (show len - 1 < len by omega)
    clear hn1 hw1
    have hidx : (len : Int) - 1 = ((len - 1 : Nat) : Int) := by omega
    have hk1 : len - 1 < len := by omega
    have hpos : (0 : Int) < (len : Int) := by omega
    have hlr : l1 = (rv rs (len - 1)).2.length := hrow.hlen
    clear hrow
    by_cases hz : l1 = 0
    · have hcz : ∀ W', Calls Tryd.prog 74 #[.agg #[.bool n1, .slice ao1 l1 c1]] W' fun e w' => e = .returned (.bool true) ∧ Below W'.heap.size W' w' := fun W' => isZero_any n1 ao1 l1 c1 W' true (by simp; omega)
      obtain rfl : c = 50 := by
        rw [← hc, if_neg]
        intro hm
        have := (pmayB_true hm).2.2 (by omega)
        exact this (List.eq_nil_of_length_eq_zero (by show (rv rs (len - 1)).2.length = 0; omega))
      clear hc hz hlr h0
      go_enter Tryd.func56, Tryd.ntmps56
      go_wp2_with (go_at_call 74; refine (hcz _).mono ?_; rintro e w1 ⟨rfl, hb1⟩)
      go_ret
      exact ⟨rfl, hb1⟩
    · have hcz : ∀ W', Calls Tryd.prog 74 #[.agg #[.bool n1, .slice ao1 l1 c1]] W' fun e w' => e = .returned (.bool false) ∧ Below W'.heap.size W' w' := fun W' => isZero_any n1 ao1 l1 c1 W' false (by simp; omega)
      have HC : Hid ((if rs.all (fun r => mayB r.1 r.2) then 0 else 50 : Int) = c) := by
        show _ = _
        rw [← hc]
        have e1 : (rs.getD (len - 1) (false, [])).2 ≠ [] := fun e => hz (by rw [hlr]; show (rs.getD (len - 1) (false, [])).2.length = 0; rw [e]; rfl)
        have e2 : pmayB len rs = rs.all (fun r => mayB r.1 r.2) := by
          unfold pmayB
          rw [decide_eq_true (show len ≤ 1025 by omega), decide_eq_true e1, Bool.or_true, Bool.and_true, Bool.true_and]
        rw [e2]
      clear hc hz hlr h0
      go_enter Tryd.func56, Tryd.ntmps56
      go_wp2_with (go_at_call 74; refine (hcz _).mono ?_; rintro e w1 ⟨rfl, hb1⟩)
      go_loopw [24] (fun i wr => ∃ k : Nat, k ≤ len ∧ i = .int .i64 k ∧ Below w.heap.size w wr ∧ ∀ t, (ht : t < rs.length) → t < k → mayB (rs[t]).1 (rs[t]).2 = true) (fun i _ => len - (intOf i).toNat)
      case atStart => exact ⟨0, Nat.zero_le _, rfl, hb1, fun t _ h => absurd h (by omega)⟩
      case round =>
        clear h1 h2
        obtain ⟨k, hk, rfl, hbel, hz⟩ := hrel
        have HZ : Hid (∀ t, (ht : t < rs.length) → t < k → mayB (rs[t]).1 (rs[t]).2 = true) := hz
        clear hz
        by_cases hlt : k < len
        · obtain ⟨b', off', n2, ao2, l2, c2, he, h1, h2, hn2, hrow, hw2⟩ := (HR.out.1.later hbel).at hlt
          clear hw2
          cases he
          have hA : Below wr.heap.size wr (wr.alloc (.cells #[.bool n2, .slice ao2 l2 c2] 65)) := (Below.refl _ _).alloc (Nat.le_refl _) _
          have hl2 : l2 ≤ 100000 := by rw [hrow.hlen]; exact HR.out.2.1 k
          have hkr : k < rs.length := by rw [← HR.out.2.2]; exact hlt
          obtain ⟨d, hd⟩ : ∃ d, mayB n2 (rv rs k).2 = d := ⟨_, rfl⟩
          have HD : Hid (mayB (rv rs k).1 (rv rs k).2 = d) := by show _ = d; rw [← hn2]; exact hd
          have hcon : ∀ c', (if d then 0 else 10 : Int) = c' → Calls Tryd.prog 75 #[.agg #[.bool n2, .slice ao2 l2 c2]] (wr.alloc (.cells #[.bool n2, .slice ao2 l2 c2] 65)) fun e w' => e = .returned (.int .i64 c') ∧ Below (wr.alloc (.cells #[.bool n2, .slice ao2 l2 c2] 65)).heap.size (wr.alloc (.cells #[.bool n2, .slice ao2 l2 c2] 65)) w' := fun c' hc' => check_at n2 ao2 l2 c2 _ _ (hrow.later hA) (by omega) c' (by rw [hd]; exact hc')
          have HKR : Hid (k < rs.length) := hkr
          clear hrow hn2 hd hkr
          cases d
          · have hcon := hcon 10 rfl
            obtain rfl : c = 50 := by
              rw [← HC.out, if_neg]
              rw [List.all_eq_true]
              intro h
              have := h _ (List.getElem_mem HKR.out)
              rw [← rv_eq HKR.out, HD.out] at this
              cases this
            go_wp2_with (go_at_call 75; refine hcon.mono ?_; rintro e w2 ⟨rfl, hb2⟩)
            go_ret
            exact ⟨rfl, bnext hbel (bnext hA hb2)⟩
          · have hcon := hcon 0 rfl
            go_wp2_with (go_at_call 75; refine hcon.mono ?_; rintro e w2 ⟨rfl, hb2⟩)
            go_roundw
            case rel => exact ⟨k + 1, by omega, by go_num, bnext hbel (bnext hA hb2), fun t ht htk => by
              by_cases e : t = k
              · subst e; rw [← rv_eq ht]; exact HD.out
              · exact HZ.out t ht (by omega)⟩
            case measure => simp [intOf]; omega
        · obtain rfl : k = len := by omega
          obtain rfl : c = 0 := by
            rw [← HC.out, if_pos]
            rw [List.all_eq_true]
            intro r hr
            obtain ⟨t, ht, rfl⟩ := List.getElem_of_mem hr
            exact HZ.out t ht (by rw [HR.out.2.2]; exact ht)
          go_wp2
          go_ret
          exact ⟨rfl, hbel⟩
end Go.Proofs.YtnniipekcbjloaaDoor
