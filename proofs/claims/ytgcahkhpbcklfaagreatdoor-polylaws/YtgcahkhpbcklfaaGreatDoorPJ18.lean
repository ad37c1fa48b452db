/-
  A pack of walks and facts: UA, JJ, UB, UC, UE, UF.
-/
import Derived.Test.YtgcahkhpbcklfaaGreatDoorPJ16
import Derived.Test.YtgcahkhpbcklfaaGreatDoorPJ17
set_option maxRecDepth 100000
set_option maxHeartbeats 40000000
set_option linter.unusedVariables false
set_option linter.unusedSimpArgs false
namespace Go.Proofs.YtgcahkhpbcklfaaGreatDoor
open Go.RowKit
def trimN (l : List Int) : Nat → Nat
 | 0 => 0
 | n + 1 => if dig l n = 0 then trimN l n else n + 1
theorem trimN_le (l : List Int) (n : Nat) : trimN l n ≤ n := by
 induction n with
 | zero => exact Nat.le_refl _
 | succ n ih => unfold trimN; split <;> omega
theorem trimN_zero {l : List Int} {n : Nat} (h : dig l n = 0) : trimN l (n + 1) = trimN l n := by simp [trimN, h]
theorem trimN_keep {l : List Int} {n : Nat} (h : dig l n ≠ 0) : trimN l (n + 1) = n + 1 := by simp [trimN, h]
theorem trimN_ne (l : List Int) (n : Nat) (h : 0 < trimN l n) : dig l (trimN l n - 1) ≠ 0 := by
 induction n with
 | zero => simp [trimN] at h
 | succ n ih =>
  by_cases e : dig l n = 0
  ·
   rw [trimN_zero e] at h ⊢; exact ih h
  ·
   rw [trimN_keep e]; simpa using e
theorem trimN_past (l : List Int) (n t : Nat) (h : trimN l n ≤ t) (ht : t < n) : dig l t = 0 := by
 induction n with
 | zero => omega
 | succ n ih =>
  by_cases e : dig l n = 0
  ·
   rw [trimN_zero e] at h
   by_cases e2 : t = n
   ·
    subst e2; exact e
   ·
    exact ih h (by omega)
  ·
   rw [trimN_keep e] at h; omega
def trimL (l : List Int) : List Int := l.take (trimN l l.length)
theorem trimL_len (l : List Int) : (trimL l).length = trimN l l.length := by
 unfold trimL; rw [List.length_take]; exact Nat.min_eq_left (trimN_le _ _)
theorem trimL_dig (l : List Int) (t : Nat) : dig (trimL l) t = dig l t := by
 by_cases h : t < trimN l l.length
 ·
  unfold trimL; rw [dig_take h]
 ·
  rw [dig_past (by rw [trimL_len]; omega)]
  by_cases h2 : t < l.length
  ·
   exact (trimN_past l l.length t (by omega) h2).symm
  ·
   rw [dig_past (by omega)]
theorem trimL_lead (l : List Int) : Lead (trimL l) := by
 intro h
 rw [trimL_len] at h ⊢
 rw [trimL_dig]
 exact trimN_ne l _ h
theorem trimN_lead {l : List Int} (h : Lead l) : trimN l l.length = l.length := by
 cases hl : l.length with
 | zero => rfl
 | succ n =>
  have := h (by omega)
  rw [hl] at this
  exact trimN_keep (by simpa using this)
theorem trimL_of_lead {l : List Int} (h : Lead l) : trimL l = l := by unfold trimL; rw [trimN_lead h, List.take_length]
theorem trimL_lim {K : Nat} {l : List Int} (h : Lim K l) : Lim K (trimL l) := fun t => by rw [trimL_dig]; exact h t
def tab (n : Nat) (f : Nat → Int) : List Int := (List.range n).map f
theorem tab_len (n : Nat) (f : Nat → Int) : (tab n f).length = n := by simp [tab]
theorem tab_dig {n t : Nat} (f : Nat → Int) (h : t < n) : dig (tab n f) t = f t := by
 unfold tab dig
 rw [List.getD_eq_getElem?_getD, List.getElem?_map, List.getElem?_range h]; rfl
theorem tab_succ (n : Nat) (f : Nat → Int) : tab (n + 1) f = tab n f ++ [f n] := by simp [tab, List.range_succ]
theorem tab_lim {K n : Nat} {f : Nat → Int} (h : ∀ t, t < n → lim (f t) ≤ K) : Lim K (tab n f) := fun t => by
 by_cases ht : t < n
 ·
  rw [tab_dig _ ht]; exact h t ht
 ·
  rw [dig_past (by rw [tab_len]; omega), lim_zero]; omega
def FillSt (n : Nat) (f : Nat → Int) (k : Nat) (l : List Int) : Prop := l.length = n ∧ ∀ t, t < n → dig l t = if t < k then f t else 0
theorem FillSt.start (n : Nat) (f : Nat → Int) : FillSt n f 0 (List.replicate n 0) := ⟨by simp, fun t ht => by rw [rep_dig, if_neg (by omega)]⟩
theorem FillSt.step {n : Nat} {f : Nat → Int} {k : Nat} {l : List Int} (h : FillSt n f k l) (hk : k < n) : FillSt n f (k + 1) (l.set k (f k)) := by
 refine ⟨by simpa using h.1, fun t ht => ?_⟩
 rw [pdig_set _ _ _ _ (by rw [h.1]; exact ht)]
 by_cases e : t = k
 ·
  subst e; rw [if_pos rfl, if_pos (by omega)]
 ·
  rw [if_neg e, h.2 t ht]
  by_cases e2 : t < k
  ·
   rw [if_pos e2, if_pos (by omega)]
  ·
   rw [if_neg e2, if_neg (by omega)]
theorem FillSt.done {n : Nat} {f : Nat → Int} {l : List Int} (h : FillSt n f n l) : l = tab n f :=
 dig_ext (by rw [h.1, tab_len]) fun t ht => by rw [h.1] at ht; rw [h.2 t ht, if_pos ht, tab_dig _ ht]
def CoefO (B : Nat) (w : World) (g o : Nat) (v : Int) : Prop := ∃ n ao l c, (w.cell? ⟨g, o, none⟩ = some (.bool n) ∧ w.cell? ⟨g, o + 1, none⟩ = some (.slice ao l c)) ∧ n = sgB v ∧ Own B w .u64 63 ao l c (mag v.natAbs)
theorem CoefO.coef {B : Nat} {w : World} {g o : Nat} {v : Int} (h : CoefO B w g o v) : CoefAt w g o v := by
 obtain ⟨n, ao, l, c, hc, hs, ho⟩ := h
 exact ⟨n, ao, l, c, hc, ho.int hs⟩
structure PBlkO (B : Nat) (w : World) (g : Nat) (p : List Int) : Prop where
 soft : ∀ j, w.frozen? ⟨g, j, none⟩ = false
 coef : ∀ t, t < p.length → CoefO B w g (t * 2) (dig p t)
 apart : ∀ s t, s < p.length → t < p.length → s ≠ t → ∀ (a b : Addr) (l l' c c' : Nat), w.cell? ⟨g, s * 2 + 1, none⟩ = some (.slice (some a) l c) → w.cell? ⟨g, t * 2 + 1, none⟩ = some (.slice (some b) l' c') → a.block ≠ b.block
 away : ∀ t, t < p.length → ∀ (a : Addr) (l c : Nat), w.cell? ⟨g, t * 2 + 1, none⟩ = some (.slice (some a) l c) → a.block ≠ g
theorem PBlkO.blk {B : Nat} {w : World} {g : Nat} {p : List Int} (h : PBlkO B w g p) : PBlk w g p := ⟨h.soft, fun t ht => (h.coef t ht).coef⟩
theorem PBlkO.later {B : Nat} {w w' : World} {g : Nat} {p : List Int} (h : PBlkO B w g p) (hb : Below w.heap.size w w') (hg : g < w.heap.size) : PBlkO B w' g p := by
 have e : ∀ j, w'.cell? ⟨g, j, none⟩ = w.cell? ⟨g, j, none⟩ := fun j => hb.cell (p := ⟨g, j, none⟩) hg
 refine ⟨fun j => (hb.frozen (p := ⟨g, j, none⟩) hg).trans (h.soft j), fun t ht => ?_, fun s t hs ht hn a b l l' c c' h1 h2 => h.apart s t hs ht hn a b l l' c c' (by rw [← e]; exact h1) (by rw [← e]; exact h2), fun t ht a l c h1 => h.away t ht a l c (by rw [← e]; exact h1)⟩
 obtain ⟨n, ao, l, c, ⟨h0, h1⟩, hs, ho⟩ := h.coef t ht
 exact ⟨n, ao, l, c, ⟨(e _).trans h0, (e _).trans h1⟩, hs, ho.later hb⟩
theorem PBlkO.take {B : Nat} {w : World} {g : Nat} {p : List Int} (h : PBlkO B w g p) (n : Nat) : PBlkO B w g (p.take n) := by
 have hl : ∀ t, t < (p.take n).length → t < p.length ∧ t < n := fun t ht => by rw [List.length_take] at ht; omega
 exact ⟨h.soft, fun t ht => by rw [dig_take (hl t ht).2]; exact h.coef t (hl t ht).1, fun s t hs ht => h.apart s t (hl s hs).1 (hl t ht).1, fun t ht => h.away t (hl t ht).1⟩
theorem PBlkO.mono {B B' : Nat} {w : World} {g : Nat} {p : List Int} (h : PBlkO B w g p) (hB : B' ≤ B) : PBlkO B' w g p := by
 refine ⟨h.soft, fun t ht => ?_, h.apart, h.away⟩
 obtain ⟨n, ao, l, c, hc, hs, ho⟩ := h.coef t ht
 exact ⟨n, ao, l, c, hc, hs, ho.mono hB⟩
theorem own_lt {B : Nat} {w : World} {k : IntKind} {t : TypeId} {a : Addr} {l c : Nat} {zs : List Int} (h : Own B w k t (some a) l c zs) : B ≤ a.block ∧ a.block < w.heap.size := by
 rcases h with ⟨h, _⟩ | ⟨g, off, cur, h1, h2, h3, _⟩
 ·
  cases h
 ·
  cases h1; exact ⟨h2, heap_lt h3⟩
theorem PBlkO.put {B : Nat} {w w1 : World} {g t l c : Nat} {n : Bool} {ao : Option Addr} {p : List Int} {v : Int} (h : PBlkO B w g p) (hb : Below w.heap.size w w1) (hg : g < w.heap.size) (hB : B ≤ w.heap.size) (ht : t < p.length) (hsg : n = sgB v) (ho : Own w.heap.size w1 .u64 63 ao l c (mag v.natAbs)) : PBlkO B ((w1.setCell ⟨g, t * 2, none⟩ (.bool n)).setCell ⟨g, t * 2 + 1, none⟩ (.slice ao l c)) g (p.set t v) := by
 have h1 := h.later hb hg
 obtain ⟨n0, ao0, l0, c0, ⟨e0, e1⟩, _⟩ := h1.coef t ht
 have hne : ∀ {b : Nat}, b ≠ g → ∀ (x y : Value) (i j : Nat), ((w1.setCell ⟨g, i, none⟩ x).setCell ⟨g, j, none⟩ y).heap[b]? = w1.heap[b]? := fun hb x y i j => by
  rw [Below.heap_setCell _ ⟨g, j, none⟩ y _ hb, Below.heap_setCell _ ⟨g, i, none⟩ x _ hb]
 have keep : ∀ {B' : Nat} {bo : Option Addr} {k d : Nat} {zs : List Int}, (∀ a : Addr, bo = some a → a.block ≠ g) → Own B' w1 .u64 63 bo k d zs → Own B' ((w1.setCell ⟨g, t * 2, none⟩ (.bool n)).setCell ⟨g, t * 2 + 1, none⟩ (.slice ao l c)) .u64 63 bo k d zs := by
  intro B' bo k d zs ha hO
  rcases hO with hO | ⟨g', off, cur, q1, q2, q3, q4⟩
  ·
   exact Or.inl hO
  ·
   exact Or.inr ⟨g', off, cur, q1, q2, by rw [hne (ha _ q1)]; exact q3, q4⟩
 have hnew : ∀ a : Addr, ao = some a → w.heap.size ≤ a.block := fun a ha => by subst ha; exact (own_lt ho).1
 have c0' : ((w1.setCell ⟨g, t * 2, none⟩ (.bool n)).setCell ⟨g, t * 2 + 1, none⟩ (.slice ao l c)).cell? ⟨g, t * 2 + 1, none⟩ = some (.slice ao l c) := by simp [go_sem, e0, e1]
 have c1' : ∀ s, s ≠ t → ((w1.setCell ⟨g, t * 2, none⟩ (.bool n)).setCell ⟨g, t * 2 + 1, none⟩ (.slice ao l c)).cell? ⟨g, s * 2 + 1, none⟩ = w1.cell? ⟨g, s * 2 + 1, none⟩ := fun s hs => by
  rw [setCell_ne (by rintro ⟨_, h⟩; simp only at h; omega), setCell_ne (by rintro ⟨_, h⟩; simp only at h; omega)]
 have c2' : ∀ s, s ≠ t → ((w1.setCell ⟨g, t * 2, none⟩ (.bool n)).setCell ⟨g, t * 2 + 1, none⟩ (.slice ao l c)).cell? ⟨g, s * 2, none⟩ = w1.cell? ⟨g, s * 2, none⟩ := fun s hs => by
  rw [setCell_ne (by rintro ⟨_, h⟩; simp only at h; omega), setCell_ne (by rintro ⟨_, h⟩; simp only at h; omega)]
 have old : ∀ s, s < p.length → ∀ (a : Addr) (k d : Nat), w1.cell? ⟨g, s * 2 + 1, none⟩ = some (.slice (some a) k d) → a.block < w.heap.size := by
  intro s hs a k d hc
  obtain ⟨m, bo, k', d', ⟨_, q1⟩, _, hO⟩ := h.coef s hs
  have q2 := (hb.cell (p := ⟨g, s * 2 + 1, none⟩) hg).trans q1
  rw [hc] at q2
  simp only [Option.some.injEq, Value.slice.injEq] at q2
  obtain ⟨q3, _⟩ := q2
  subst q3
  exact (own_lt hO).2
 refine ⟨fun j => by rw [soft_far, soft_far]; exact h1.soft j, fun s hs => ?_, fun s u hs hu hn a b k k' d d' q1 q2 => ?_, fun s hs a k d q1 => ?_⟩
 ·
  rw [List.length_set] at hs
  rw [pdig_set _ _ _ _ hs]
  by_cases e : s = t
  ·
   subst e
   rw [if_pos rfl]
   exact ⟨n, ao, l, c, ⟨by simp [go_sem, e0, e1], c0'⟩, hsg, keep (fun a ha => by have := hnew a ha; omega) (ho.mono hB)⟩
  ·
   rw [if_neg e]
   obtain ⟨m, bo, k, d, ⟨q0, q1⟩, q2, hO⟩ := h1.coef s hs
   exact ⟨m, bo, k, d, ⟨by rw [c2' s e]; exact q0, by rw [c1' s e]; exact q1⟩, q2, keep (fun a ha => by subst ha; exact h1.away s hs a k d q1) hO⟩
 ·
  rw [List.length_set] at hs hu
  by_cases e1 : s = t
  ·
   subst e1
   rw [c0'] at q1
   rw [c1' u (Ne.symm hn)] at q2
   simp only [Option.some.injEq, Value.slice.injEq] at q1
   have := hnew a q1.1
   have := old u hu b k' d' q2
   omega
  ·
   rw [c1' s e1] at q1
   by_cases e2 : u = t
   ·
    subst e2
    rw [c0'] at q2
    simp only [Option.some.injEq, Value.slice.injEq] at q2
    have := hnew b q2.1
    have := old s hs a k d q1
    omega
   ·
    rw [c1' u e2] at q2
    exact h1.apart s u hs hu hn a b k k' d d' q1 q2
 ·
  rw [List.length_set] at hs
  by_cases e : s = t
  ·
   subst e
   rw [c0'] at q1
   simp only [Option.some.injEq, Value.slice.injEq] at q1
   have := hnew a q1.1
   omega
  ·
   rw [c1' s e] at q1
   exact h1.away s hs a k d q1
theorem pblkO_of_made {w w' : World} {B C n : Nat} {t : TypeId} (h : w'.ownsRow B t 2 (.slice (some ⟨w.heap.size, 0, none⟩) n n) n (madeCells (Value.agg #[.bool false, .slice none 0 0]).cells (n * 2)).toList) : PBlkO C w' w.heap.size (List.replicate n 0) ∧ w.heap.size < w'.heap.size := by
 obtain ⟨_, h2⟩ := h
 rcases h2 with ⟨h2, _⟩ | ⟨g', cap, cur, hv, hg, hh, hc1, _, hs, ht⟩
 ·
  cases h2
 ·
  simp only [Value.slice.injEq, Option.some.injEq, Addr.mk.injEq] at hv
  obtain ⟨⟨hge, _⟩, _, hce⟩ := hv
  subst hge
  subst hce
  have hcell : ∀ j, j < n * 2 → w'.cell? ⟨w.heap.size, j, none⟩ = some (if j % 2 = 0 then .bool false else .slice none 0 0) := by
   intro j hj
   have e1 : cur.toList[j]? = (madeCells (Value.agg #[.bool false, .slice none 0 0]).cells (n * 2)).toList[j]? := by
    rw [← ht, List.getElem?_take, if_pos hj]
   have e2 : (madeCells (Value.agg #[.bool false, .slice none 0 0]).cells (n * 2)).toList[j]? = some (if j % 2 = 0 then .bool false else .slice none 0 0) := by
    simp only [madeCells, Array.toList_map, List.getElem?_map, Array.toList_range, List.getElem?_range hj, Option.map_some]
    congr 1
    have e3 : (Value.agg #[.bool false, .slice none 0 0]).cells = #[.bool false, .slice none 0 0] := by simp [Value.cells]
    rw [e3]
    have : j % 2 = 0 ∨ j % 2 = 1 := by omega
    rcases this with h | h <;> simp [h]
   rw [e2] at e1
   simp only [World.cell?, hh]
   simpa using e1
  have hodd : ∀ t, t < n → w'.cell? ⟨w.heap.size, t * 2 + 1, none⟩ = some (.slice none 0 0) := fun t ht => by rw [hcell _ (by omega), if_neg (by omega)]
  have hno : ∀ t, t < (List.replicate n (0 : Int)).length → ∀ (a : Addr) (l c : Nat), ¬ w'.cell? ⟨w.heap.size, t * 2 + 1, none⟩ = some (.slice (some a) l c) := fun t ht a l c q => by
   rw [hodd t (by simpa using ht)] at q
   simp at q
  refine ⟨⟨fun j => by simp [World.frozen?, hh], fun t ht => ?_, fun s t hs _ _ a b l l' c c' q _ => absurd q (hno s hs a l c), fun t ht a l c q => absurd q (hno t ht a l c)⟩, heap_lt hh⟩
  have ht' : t < n := by simpa using ht
  rw [rep_dig]
  exact ⟨false, none, 0, 0, ⟨by rw [hcell _ (by omega), if_pos (by omega)], hodd t ht'⟩, rfl, Or.inl ⟨rfl, rfl, rfl, rfl⟩⟩
def POwn (B : Nat) (w : World) (ao : Option Addr) (len cap : Nat) (p : List Int) : Prop :=
 len = p.length ∧ cap = len ∧ ((len = 0 ∧ ao = none) ∨ (0 < len ∧ ∃ g, ao = some ⟨g, 0, none⟩ ∧ B ≤ g ∧ g < w.heap.size ∧ PBlkO B w g p))
theorem POwn.nil (B : Nat) (w : World) : POwn B w none 0 0 [] := ⟨rfl, rfl, Or.inl ⟨rfl, rfl⟩⟩
theorem POwn.poly {B : Nat} {w : World} {ao : Option Addr} {len cap : Nat} {p : List Int} (h : POwn B w ao len cap p) : PolyAt w ao len cap p := by
 obtain ⟨h1, h2, h3⟩ := h
 subst h2
 rcases h3 with ⟨h0, rfl⟩ | ⟨h0, g, rfl, _, _, hp⟩
 ·
  subst h0
  obtain rfl : p = [] := List.eq_nil_of_length_eq_zero h1.symm
  exact PolyAt.nilPoly _
 ·
  exact hp.blk.poly h1
theorem POwn.later {B : Nat} {w w' : World} {ao : Option Addr} {len cap : Nat} {p : List Int} (h : POwn B w ao len cap p) (hb : Below w.heap.size w w') : POwn B w' ao len cap p := by
 obtain ⟨h1, h2, h3⟩ := h
 refine ⟨h1, h2, ?_⟩
 rcases h3 with h3 | ⟨h0, g, h4, h5, h6, hp⟩
 ·
  exact Or.inl h3
 ·
  exact Or.inr ⟨h0, g, h4, h5, Nat.lt_of_lt_of_le h6 hb.size, hp.later hb h6⟩
theorem POwn.mono {B B' : Nat} {w : World} {ao : Option Addr} {len cap : Nat} {p : List Int} (h : POwn B w ao len cap p) (hB : B' ≤ B) : POwn B' w ao len cap p := by
 obtain ⟨h1, h2, h3⟩ := h
 refine ⟨h1, h2, ?_⟩
 rcases h3 with h3 | ⟨h0, g, h4, h5, h6, hp⟩
 ·
  exact Or.inl h3
 ·
  exact Or.inr ⟨h0, g, h4, Nat.le_trans hB h5, h6, hp.mono hB⟩
theorem PBlkO.trim {B : Nat} {w : World} {g : Nat} {l : List Int} (h : PBlkO B w g l) (hB : B ≤ g) (hg : g < w.heap.size) {ao : Option Addr} {m : Nat} (hm : m = trimN l l.length) (h0 : m = 0 → ao = none) (h1 : 0 < m → ao = some ⟨g, 0, none⟩) : POwn B w ao m m (trimL l) := by
 refine ⟨by rw [trimL_len]; exact hm, rfl, ?_⟩
 rcases Nat.eq_zero_or_pos m with e | e
 ·
  exact Or.inl ⟨e, h0 e⟩
 ·
  exact Or.inr ⟨e, g, h1 e, hB, hg, h.take _⟩
end Go.Proofs.YtgcahkhpbcklfaaGreatDoor
namespace Go.Proofs.YtgcahkhpbcklfaaGreatDoor
open Go.RowKit
theorem PolyAt.at {w : World} {ao : Option Addr} {len cap k : Nat} {p : List Int} (h : PolyAt w ao len cap p) (hk : k < len) : ∃ b off n1 ao1 l1 c1, ao = some ⟨b, off, none⟩ ∧ w.cell? ⟨b, off + k * 2, none⟩ = some (.bool n1) ∧ w.cell? ⟨b, off + k * 2 + 1, none⟩ = some (.slice ao1 l1 c1) ∧ IntAt w n1 ao1 l1 c1 (dig p k) := by
 obtain ⟨b, off, h1, hat⟩ := h.get (by omega)
 obtain ⟨n1, ao1, l1, c1, ⟨h0, h1'⟩, hi⟩ := hat k hk
 exact ⟨b, off, n1, ao1, l1, c1, h1, h0, h1', hi⟩
theorem lim_set {M D : Nat} {l : List Int} {j : Nat} {v : Int} (h : Lim M l) (hv : lim v ≤ M + D) : Lim (M + D) (l.set j v) := by
 intro t
 by_cases ht : t < l.length
 ·
  rw [pdig_set _ _ _ _ ht]
  split
  ·
   exact hv
  ·
   exact Nat.le_trans (h t) (by omega)
 ·
  rw [dig_past (by simp; omega), lim_zero]; omega
theorem mul_lims {M A i k : Nat} {a b : Int} {l : List Int} (h : Lim (M * (2 * A + 1)) l) (ha : lim a ≤ A) (hb : lim b ≤ A) : Lim ((M + 1) * (2 * A + 1)) (l.set (i + k) (dig l (i + k) + a * b)) := by
 rw [Nat.succ_mul]
 refine lim_set h ?_
 have h1 := lim_add (dig l (i + k)) (a * b)
 have h2 := lim_mul a b
 have h3 := h (i + k)
 omega
end Go.Proofs.YtgcahkhpbcklfaaGreatDoor
namespace Go.Proofs.YtgcahkhpbcklfaaGreatDoor
open Go.RowKit
theorem owns_later2 {w w' : World} {B n s : Nat} {t : TypeId} {v : Value} {xs : List Value} (h : w.ownsRow B t s v n xs) (hb : Below w.heap.size w w') : w'.ownsRow B t s v n xs := by
 refine ⟨h.1, ?_⟩
 rcases h.2 with hv | ⟨g, cap, cur, hv, hg, hh, hrest⟩
 ·
  exact Or.inl hv
 ·
  exact Or.inr ⟨g, cap, cur, hv, hg, by rw [hb.block g (heap_lt hh)]; exact hh, hrest⟩
theorem grown_owns2 {w0 w w' : World} {B n s : Nat} {t : TypeId} {v : Value} {xs : List Value} (hb : Below B w0 w) (hB : B ≤ w.heap.size) (ho : w.ownsRow B t s v n xs) (hg : w.grownBy w' v.ownBlock) : Below B w0 w' := by
 refine hb.grown hg hB fun k hk => ?_
 rcases ho.2 with ⟨rfl, _⟩ | ⟨g, cap, cur, rfl, h1, _⟩
 ·
  cases hk
 ·
  simp only [Value.ownBlock, Option.some.injEq] at hk
  omega
theorem own_grown2 {B B' n s : Nat} {w w' : World} {k : IntKind} {t t' : TypeId} {v : Value} {xs : List Value} {ao : Option Addr} {len cap : Nat} {zs : List Int} (h : Own B w k t ao len cap zs) (ho : w.ownsRow B' t' s v n xs) (hg : w.grownBy w' v.ownBlock) (hne : t ≠ t') : Own B w' k t ao len cap zs := by
 rcases h with h | ⟨g, off, cur, h1, h2, h3, h4⟩
 ·
  exact Or.inl h
 ·
  refine Or.inr ⟨g, off, cur, h1, h2, ?_, h4⟩
  rw [hg.block g (heap_lt h3) ?_]
  ·
   exact h3
  ·
   intro e
   rcases ho.2 with ⟨rfl, _⟩ | ⟨g', cap', cur', rfl, hg', hh, _⟩
   ·
    cases e
   ·
    simp only [Value.ownBlock, Option.some.injEq] at e
    subst e
    rw [h3] at hh
    simp only [Option.some.injEq, Obj.cells.injEq] at hh
    exact hne hh.2.1
def Elems (B : Nat) (w : World) (xs : List Value) (rs : List (Bool × List Int)) : Prop := ∀ t, (ht : t < rs.length) → ∃ ao l c, xs[t * 2]? = some (.bool (rs[t]).1) ∧ xs[t * 2 + 1]? = some (.slice ao l c) ∧ Own B w .u64 63 ao l c (rs[t]).2
def LRow (B : Nat) (w : World) (v : Value) (rs : List (Bool × List Int)) : Prop := ∃ xs, w.ownsRow B 28 2 v rs.length xs ∧ Elems B w xs rs
theorem LRow.nil (B : Nat) (w : World) : LRow B w (.slice none 0 0) [] := ⟨[], World.ownsRow_nil _ _ _ _, fun t ht => absurd ht (by simp)⟩
theorem Elems.later {B : Nat} {w w' : World} {xs : List Value} {rs : List (Bool × List Int)} (h : Elems B w xs rs) (hb : Below w.heap.size w w') : Elems B w' xs rs := fun t ht => by
 obtain ⟨ao, l, c, h0, h1, h2⟩ := h t ht
 exact ⟨ao, l, c, h0, h1, h2.later hb⟩
theorem lrow_push {B m : Nat} {w w' : World} {v v' : Value} {rs : List (Bool × List Int)} {xs : List Value} {n : Bool} {ao : Option Addr} {l c : Nat} {zs : List Int} (hm : m = rs.length) (ho : w.ownsRow B 28 2 v m xs) (hx : Elems B w xs rs) (hn : Own B w .u64 63 ao l c zs) (h' : w'.ownsRow B 28 2 v' (m + 1) (xs ++ [.bool n, .slice ao l c])) (hg : w.grownBy w' v.ownBlock) : LRow B w' v' (rs ++ [(n, zs)]) := by
 subst hm
 have hlx : xs.length = rs.length * 2 := ho.1
 have hr : (rs ++ [(n, zs)]).length = rs.length + 1 := by simp
 refine ⟨xs ++ [.bool n, .slice ao l c], by rw [hr]; exact h', fun t ht => ?_⟩
 rw [hr] at ht
 by_cases e : t < rs.length
 ·
  obtain ⟨ao', l', c', h0, h1, h2⟩ := hx t e
  refine ⟨ao', l', c', ?_, ?_, ?_⟩
  ·
   rw [List.getElem?_append_left (by omega), List.getElem_append_left e]; exact h0
  ·
   rw [List.getElem?_append_left (by omega)]; exact h1
  ·
   rw [List.getElem_append_left e]; exact own_grown2 h2 ho hg (by decide)
 ·
  obtain rfl : t = rs.length := by omega
  refine ⟨ao, l, c, ?_, ?_, ?_⟩
  ·
   rw [List.getElem?_append_right (by omega), hlx, Nat.sub_self]; simp
  ·
   rw [List.getElem?_append_right (by omega), hlx, show rs.length * 2 + 1 - rs.length * 2 = 1 by omega]; simp
  ·
   simp only [List.getElem_append_right (Nat.le_refl _), Nat.sub_self, List.getElem_cons_zero]
   exact own_grown2 hn ho hg (by decide)
theorem lrow_cells {B n : Nat} {w : World} {v : Value} {xs : List Value} (h : w.ownsRow B 28 2 v n xs) : ∃ ao cap, v = .slice ao n cap ∧ n ≤ cap ∧ (ao = none → cap = 0) ∧ (n = 0 ∨ ∃ g, ao = some ⟨g, 0, none⟩ ∧ ∀ j u, xs[j]? = some u → w.cell? ⟨g, j, none⟩ = some u) := by
 obtain ⟨hl, h⟩ := h
 rcases h with ⟨rfl, rfl⟩ | ⟨g, cap, cur, rfl, _, hh, hc, _, hs, ht⟩
 ·
  exact ⟨none, 0, rfl, Nat.le_refl _, fun _ => rfl, Or.inl rfl⟩
 ·
  refine ⟨_, cap, rfl, hc, fun e => (by cases e), Or.inr ⟨g, rfl, fun j u hj => ?_⟩⟩
  rw [← ht] at hj
  have hj2 : j < n * 2 := by
   rcases Nat.lt_or_ge j (n * 2) with q | q
   ·
    exact q
   ·
    rw [List.getElem?_eq_none (by simp; omega)] at hj; cases hj
  rw [List.getElem?_take_of_lt hj2] at hj
  simp [World.cell?, hh]
  simpa using hj
def rsOf (l : List Int) : List (Bool × List Int) := l.map fun a => (sgB a, mag a.natAbs)
theorem rsOf_len (l : List Int) : (rsOf l).length = l.length := by simp [rsOf]
theorem rsOf_push (l : List Int) (a : Int) : rsOf (l ++ [a]) = rsOf l ++ [(sgB a, mag a.natAbs)] := by simp [rsOf]
theorem rsOf_tab (k : Nat) (f : Nat → Int) : rsOf (tab (k + 1) f) = rsOf (tab k f) ++ [(sgB (f k), mag (f k).natAbs)] := by rw [tab_succ, rsOf_push]
theorem rsOf_get (l : List Int) (t : Nat) (h : t < (rsOf l).length) : (rsOf l)[t] = (sgB (dig l t), mag (dig l t).natAbs) := by
 have h' : t < l.length := by rwa [rsOf_len] at h
 have e : dig l t = l[t] := by unfold dig; rw [List.getD_eq_getElem?_getD, List.getElem?_eq_getElem h']; rfl
 rw [e]; simp [rsOf]
theorem LRow.poly {B : Nat} {w : World} {v : Value} {l : List Int} (h : LRow B w v (rsOf l)) : ∃ ao cap, v = .slice ao l.length cap ∧ PolyAt w ao l.length cap l := by
 obtain ⟨xs, ho, hx⟩ := h
 rw [rsOf_len] at ho
 obtain ⟨ao, cap, hv, hc, hn, hat⟩ := lrow_cells ho
 refine ⟨ao, cap, hv, rfl, hc, hn, ?_⟩
 rcases hat with h0 | ⟨g, hg, hcell⟩
 ·
  exact Or.inl h0
 ·
  refine Or.inr ⟨g, 0, hg, fun t ht => ?_⟩
  obtain ⟨ao', l', c', h0, h1, h2⟩ := hx t (by rw [rsOf_len]; exact ht)
  rw [rsOf_get] at h0 h2
  rw [Nat.zero_add]
  exact ⟨_, ao', l', c', ⟨hcell _ _ h0, hcell _ _ h1⟩, rfl, h2.row⟩
theorem LRow.raws {B : Nat} {w : World} {v : Value} {rs : List (Bool × List Int)} (h : LRow B w v rs) (hw : ∀ r ∈ rs, Wd 18446744073709551616 r.2) : ∃ ao cap, v = .slice ao rs.length cap ∧ RawsAt w ao rs.length cap rs := by
 obtain ⟨xs, ho, hx⟩ := h
 obtain ⟨ao, cap, hv, hc, hn, hat⟩ := lrow_cells ho
 refine ⟨ao, cap, hv, rfl, hc, hn, ?_⟩
 rcases hat with h0 | ⟨g, hg, hcell⟩
 ·
  exact Or.inl h0
 ·
  refine Or.inr ⟨g, 0, hg, fun t ht => ?_⟩
  obtain ⟨ao', l', c', h0, h1, h2⟩ := hx t ht
  rw [Nat.zero_add]
  exact ⟨ao', l', c', ⟨hcell _ _ h0, hcell _ _ h1⟩, h2.row, hw _ (List.getElem_mem ht)⟩
theorem LRow.polyAt {B k vc : Nat} {w : World} {vo : Option Addr} {l : List Int} (h : LRow B w (.slice vo k vc) (rsOf l)) : PolyAt w vo k vc l := by
 obtain ⟨ao, cap, hv, hp⟩ := h.poly
 simp only [Value.slice.injEq] at hv
 obtain ⟨rfl, rfl, rfl⟩ := hv
 exact hp
theorem owns_base {w : World} {B n m s cap : Nat} {t : TypeId} {ao : Option Addr} {xs : List Value} (h : w.ownsRow B t s (.slice ao m cap) n xs) (a : Addr) (ha : ao = some a) : B ≤ a.block := by
 rcases h.2 with ⟨h, _⟩ | ⟨g, cap', cur, h, hg, _⟩
 ·
  simp only [Value.slice.injEq] at h
  rw [h.1] at ha; cases ha
 ·
  simp only [Value.slice.injEq] at h
  rw [h.1] at ha; cases ha; exact hg
def NewPolyB (w w' : World) (e : Ending) (p : List Int) : Prop := ∃ ao len cap, e = .returned (.slice ao len cap) ∧ PolyAt w' ao len cap p ∧ (∀ a : Addr, ao = some a → w.heap.size ≤ a.block) ∧ Below w.heap.size w w'
theorem PolyAt.kept {w : World} {ao : Option Addr} {len cap r : Nat} {p : List Int} (h : PolyAt w ao len cap p) (hf : Fresh w r) (hne : ∀ a : Addr, ao = some a → a.block ≠ r) (x y : Value) : PolyAt ((w.setCell ⟨r, 0, none⟩ x).setCell ⟨r, 1, none⟩ y) ao len cap p := by
 refine ⟨h.hlen, h.hcap, h.hnil, ?_⟩
 rcases h.hat with h0 | ⟨b, off, h1, h2⟩
 ·
  exact Or.inl h0
 ·
  refine Or.inr ⟨b, off, h1, fun t ht => ?_⟩
  have hb := hne _ h1
  obtain ⟨n, ao', l, c, ⟨q0, q1⟩, hi⟩ := h2 t ht
  exact ⟨n, ao', l, c, ⟨by rw [setCell_ne (fun e => hb e.1), setCell_ne (fun e => hb e.1)]; exact q0, by rw [setCell_ne (fun e => hb e.1), setCell_ne (fun e => hb e.1)]; exact q1⟩, hi.sg, hi.row.kept hf _ _⟩
end Go.Proofs.YtgcahkhpbcklfaaGreatDoor
namespace Go.Proofs.YtgcahkhpbcklfaaGreatDoor
open Go.RowKit
theorem ptrim_any (ao : Option Addr) (len cap : Nat) (p : List Int) (w : World) (hp : PolyAt w ao len cap p) (hl : len ≤ 1048576) :
  Calls Tryz.prog 47 #[.slice ao len cap] w fun e w' => ∃ m, m = (trimL p).length ∧ e = .returned (.slice ao m cap) ∧ PolyAt w' ao m cap (trimL p) ∧ Below w.heap.size w w' := by
 have HP : Hid (PolyAt w ao len cap p ∧ len = p.length) := ⟨hp, hp.hlen⟩
 have hcap := hp.hcap
 have hnil := hp.hnil
 clear hp
 go_enter Tryz.func47, Tryz.ntmps47
 go_wp2
 go_loopw [3] (fun i wr => ∃ k : Nat, k ≤ len ∧ i = .int .i64 (k : Int) ∧ Below w.heap.size w wr ∧ trimN p k = trimN p len) (fun i _ => (intOf i).toNat)
 case atStart => exact ⟨len, Nat.le_refl _, rfl, Below.refl _ _, rfl⟩
 case round =>
  obtain ⟨k, hk, rfl, hbel, htr⟩ := hrel
  have HT : Hid (trimN p k = trimN p len) := htr
  clear htr
  have hfin : ∀ W', Below w.heap.size w W' → trimN p k = k → ∃ m, m = (trimL p).length ∧ Ending.returned (.slice ao k cap) = .returned (.slice ao m cap) ∧ PolyAt W' ao m cap (trimL p) ∧ Below w.heap.size w W' := fun W' hb he => by
   have e1 : (trimL p).length = k := by rw [trimL_len, ← HP.out.2, ← HT.out, he]
   refine ⟨k, e1.symm, rfl, ?_, hb⟩
   have := (HP.out.1.later hb).take hk
   unfold trimL
   rw [← HP.out.2, ← HT.out, he]; exact this
  have HF : Hid (∀ W', Below w.heap.size w W' → trimN p k = k → ∃ m, m = (trimL p).length ∧ Ending.returned (.slice ao k cap) = .returned (.slice ao m cap) ∧ PolyAt W' ao m cap (trimL p) ∧ Below w.heap.size w W') := hfin
  clear hfin
  have y2 : (k : Int) ≤ (cap : Int) := by omega
  have y1 : (0 : Int) ≤ (k : Int) := by omega
  by_cases hk0 : k = 0
  ·
   subst hk0
   go_wp2
   go_ret
   exact HF.out _ hbel rfl
  ·
   obtain ⟨i, rfl⟩ : ∃ i, k = i + 1 := ⟨k - 1, by omega⟩
   have hpI : (0 : Int) < ((i + 1 : Nat) : Int) := by omega
   have hidx : ((i + 1 : Nat) : Int) - 1 = (i : Int) := by omega
   have hil : (i : Int) < (len : Int) := by omega
   have hi0 : (0 : Int) ≤ (i : Int) := by omega
   obtain ⟨b, off, n1, ao1, l1, c1, rfl, e0, e1, hi1⟩ := (HP.out.1.later hbel).at (show i < len by omega)
   have HI : Hid (l1 = lim (dig p i)) := hi1.lim
   clear hi1 hk0
   by_cases hz : l1 = 0
   ·
    have hcon : ∀ W', Calls Tryz.prog 27 #[.agg #[.bool n1, .slice ao1 l1 c1]] W' fun e w' => e = .returned (.bool true) ∧ Below W'.heap.size W' w' := fun W' => rzero_any n1 ao1 l1 c1 W' true (by simp; omega)
    have HZ : Hid (dig p i = 0) := zero_of_lim (by rw [← HI.out]; exact hz)
    clear hz
    go_wp2_with (go_at_call 27; refine (hcon _).mono ?_; rintro e w1 ⟨rfl, hb1⟩)
    go_roundw
    case rel => exact ⟨i, by omega, by go_num, bnext hbel hb1, by rw [← HT.out, trimN_zero HZ.out]⟩
    case measure => simp [intOf]
   ·
    have hcon : ∀ W', Calls Tryz.prog 27 #[.agg #[.bool n1, .slice ao1 l1 c1]] W' fun e w' => e = .returned (.bool false) ∧ Below W'.heap.size W' w' := fun W' => rzero_any n1 ao1 l1 c1 W' false (by simp; omega)
    have HZ : Hid (dig p i ≠ 0) := fun e => hz (by rw [HI.out, e]; exact lim_zero)
    clear hz
    go_wp2_with (go_at_call 27; refine (hcon _).mono ?_; rintro e w1 ⟨rfl, hb1⟩)
    go_ret
    exact HF.out _ (bnext hbel hb1) (trimN_keep HZ.out)
end Go.Proofs.YtgcahkhpbcklfaaGreatDoor
namespace Go.Proofs.YtgcahkhpbcklfaaGreatDoor
open Go.RowKit
theorem pscale_any (ao : Option Addr) (la ca A : Nat) (p : List Int) (n : Bool) (co : Option Addr) (lc cc : Nat) (c : Int) (w : World) (hp : PolyAt w ao la ca p) (hv : IntAt w n co lc cc c) (hla : la ≤ 1000) (hA : A ≤ 100000) (hlp : Lim A p) (hlc : lc ≤ 100000) :
    Calls Tryz.prog 18 #[.slice ao la ca, .agg #[.bool n, .slice co lc cc]] w fun e w' => NewPolyB w w' e (trimL (tab la fun i => dig p i * c)) := by
  obtain ⟨W, hW⟩ : ∃ W, W = w.alloc (.cells #[.bool n, .slice co lc cc] 28) := ⟨_, rfl⟩
  have HW : Hid (Below w.heap.size w W ∧ Boxed W w.heap.size n co lc cc ∧ w.heap.size < W.heap.size) := by rw [hW]; exact ⟨(Below.refl _ _).alloc (Nat.le_refl _) _, ⟨by simp [go_sem], by simp [go_sem]⟩, by simp⟩
  have HR : Hid (PolyAt W ao la ca p ∧ IntAt W n co lc cc c ∧ Lim A p ∧ A ≤ 100000) := ⟨hp.later HW.out.1, hv.later HW.out.1, hlp, hA⟩
  have HE : Hid (W = w.alloc (.cells #[.bool n, .slice co lc cc] 28)) := hW
  clear hp hv hlp hA hW
  obtain ⟨i0, hi, hz0, hz1, hz2⟩ := info_parts infoInt
  go_enter Tryz.func18, Tryz.ntmps18
  go_wp2
  go_loopw [5, 6] (fun v i wr => ∃ k : Nat, k ≤ la ∧ i = .int .i64 (k : Int) ∧ Below W.heap.size W wr ∧ LRow W.heap.size wr v (rsOf (tab k fun i => dig p i * c))) (fun _ i _ => la - (intOf i).toNat)
  case atStart => exact ⟨0, Nat.zero_le _, rfl, by rw [← HE.out]; exact Below.refl _ _, LRow.nil _ _⟩
  case round =>
    obtain ⟨k, hk, rfl, hbel, hL⟩ := hrel
    have HLR := hL
    obtain ⟨xs, hown, hx⟩ := hL
    rw [rsOf_len, tab_len] at hown
    obtain ⟨vo, vc, rfl, _⟩ := lrow_cells hown
    have HX : Hid (wr.ownsRow W.heap.size 28 2 (.slice vo k vc) k xs ∧ Elems W.heap.size wr xs (rsOf (tab k fun i => dig p i * c)) ∧ LRow W.heap.size wr (.slice vo k vc) (rsOf (tab k fun i => dig p i * c))) := ⟨hown, hx, HLR⟩
    clear hown hx HLR
    by_cases hlt : k < la
    · have h63 : Hid (k + 1 ≤ maxLen) := by show _ ≤ _; unfold maxLen; omega
      have hby : Hid ((k + 1) * 32 ≤ 140737488355328) := by show _ ≤ _; omega
      have HAT : Hid (∃ b off n1 ao1 l1 c1, ao = some ⟨b, off, none⟩ ∧ W.cell? ⟨b, off + k * 2, none⟩ = some (.bool n1) ∧ W.cell? ⟨b, off + k * 2 + 1, none⟩ = some (.slice ao1 l1 c1) ∧ IntAt W n1 ao1 l1 c1 (dig p k)) := HR.out.1.at hlt
      obtain ⟨b, off, n1, ao1, l1, c1, rfl, f0, f1, hi1⟩ := (HR.out.1.later hbel).at hlt
      obtain ⟨q0, q1⟩ := HW.out.2.1.later hbel HW.out.2.2
      have HI : Hid (IntAt wr n1 ao1 l1 c1 (dig p k) ∧ IntAt wr n co lc cc c) := ⟨hi1, HR.out.2.1.later hbel⟩
      have hl1 : l1 ≤ 100000 := by rw [hi1.lim]; exact Nat.le_trans (HR.out.2.2.1 k) HR.out.2.2.2
      have z1 : (0 : Int) ≤ (k : Int) := by omega
      have z2 : (k : Int) < (la : Int) := by omega
      clear hi1
      go_wp2
      have KS : Hid (∀ w', Below W.heap.size W w' → w'.cell? ⟨b, off + k * 2, none⟩ = some (.bool n1) ∧ w'.cell? ⟨b, off + k * 2 + 1, none⟩ = some (.slice ao1 l1 c1) ∧ w'.cell? ⟨w.heap.size, 0, none⟩ = some (.bool n) ∧ w'.cell? ⟨w.heap.size, 1, none⟩ = some (.slice co lc cc)) := fun w' hb => by
        obtain ⟨b', off', n1', ao1', l1', c1', e', f0', f1', _⟩ := HAT.out
        cases e'
        have e0 := (hbel.cell (p := ⟨b, off + k * 2, none⟩) (cell_lt f0')).trans f0'
        have e1 := (hbel.cell (p := ⟨b, off + k * 2 + 1, none⟩) (cell_lt f1')).trans f1'
        rw [f0] at e0; rw [f1] at e1
        rw [← e0] at f0'; rw [← e1] at f1'
        exact ⟨(hb.cell (p := ⟨b, off + k * 2, none⟩) (cell_lt f0')).trans f0', (hb.cell (p := ⟨b, off + k * 2 + 1, none⟩) (cell_lt f1')).trans f1', HW.out.2.1.later hb HW.out.2.2⟩
      refine wp_region_noPanic ?_
      refine wp_region_held_drew (S := fun w' => (w'.cell? ⟨b, off + k * 2, none⟩ = some (.bool n1) ∧ w'.cell? ⟨b, off + k * 2 + 1, none⟩ = some (.slice ao1 l1 c1) ∧ w'.cell? ⟨w.heap.size, 0, none⟩ = some (.bool n) ∧ w'.cell? ⟨w.heap.size, 1, none⟩ = some (.slice co lc cc))) (by kernel_rfl) (by (try dsimp only); exact KS.out _ hbel.drew) (fun hHeld => ?_)
      refine wpAnyH_take (i := 0) (oi := Oper.mk (some 13) _ _ _ _ _) (v := ?_) rfl (by decide +kernel) (by decide +kernel) (by decide +kernel) (fun _ _ _ h => h) (Or.inl ⟨by rfl, ?_⟩) (by assumption) ?_
      rotate_left
      · (intro w hSw; (try dsimp only at hSw); go_simp <;> (try with_reducible rfl))
      (try simp only [Act.put, List.setIfInBounds_toArray, List.set_cons_zero, List.set_cons_succ])
      refine wpAnyH_take (i := 1) (oi := Oper.mk (some 14) _ _ _ _ _) (v := ?_) rfl (by decide +kernel) (by decide +kernel) (by decide +kernel) (fun _ _ _ h => h) (Or.inl ⟨by rfl, ?_⟩) (by assumption) ?_
      rotate_left
      · (intro w hSw; (try dsimp only at hSw); go_simp <;> (try with_reducible rfl))
      (try simp only [Act.put, List.setIfInBounds_toArray, List.set_cons_zero, List.set_cons_succ])
      refine wpAnyH_take (i := 2) (oi := Oper.mk (some 15) _ _ _ _ _) (v := ?_) rfl (by decide +kernel) (by decide +kernel) (by decide +kernel) (fun _ _ _ h => h) (Or.inl ⟨by rfl, ?_⟩) (by assumption) ?_
      rotate_left
      · (intro w hSw; (try dsimp only at hSw); go_simp <;> (try with_reducible rfl))
      (try simp only [Act.put, List.setIfInBounds_toArray, List.set_cons_zero, List.set_cons_succ])
      refine wpAnyH_take (i := 3) (oi := Oper.mk (some 16) _ _ _ _ _) (v := ?_) rfl (by decide +kernel) (by decide +kernel) (by decide +kernel) (fun _ _ _ h => h) (Or.inl ⟨by rfl, ?_⟩) (by assumption) ?_
      rotate_left
      · (intro w hSw; (try dsimp only at hSw); go_simp <;> (try with_reducible rfl))
      (try simp only [Act.put, List.setIfInBounds_toArray, List.set_cons_zero, List.set_cons_succ])
      refine wpAnyH_take (i := 4) (oi := Oper.mk (some 17) _ _ _ _ _) (v := ?_) rfl (by decide +kernel) (by decide +kernel) (by decide +kernel) (fun _ _ _ h => h) (Or.inl ⟨by rfl, ?_⟩) (by assumption) ?_
      rotate_left
      · (intro w hSw; (try dsimp only at hSw); go_simp <;> (try with_reducible rfl))
      (try simp only [Act.put, List.setIfInBounds_toArray, List.set_cons_zero, List.set_cons_succ])
      refine wpAnyH_take (i := 5) (oi := Oper.mk (some 18) _ _ _ _ _) (v := ?_) rfl (by decide +kernel) (by decide +kernel) (by decide +kernel) (fun _ _ _ h => h) (Or.inl ⟨by rfl, ?_⟩) (by assumption) ?_
      rotate_left
      · (intro w hSw; (try dsimp only at hSw); go_simp <;> (try with_reducible rfl))
      (try simp only [Act.put, List.setIfInBounds_toArray, List.set_cons_zero, List.set_cons_succ])
      refine wpAnyH_ready (rs := [6]) (by decide +kernel) (by simp) ?_
      refine AllReadyH.cons (o := Oper.mk (some 19) _ _ _ _ _) rfl (fun K hK => ?_) AllReadyH.nil
      go_simp
      (go_at_call 39; refine (rtimes_any n1 n ao1 co l1 c1 lc cc (dig p k) c _ (HI.out.1.later (Below.refl _ _).drew) (HI.out.2.later (Below.refl _ _).drew) (by omega) (by omega)).mono ?_; rintro e w3 ⟨n3, ao3, l3, c3, rfl, hs3, ho3, hb3'⟩; have hb3 : Below wr.heap.size wr w3 := bnext (Below.refl _ _).drew hb3'; have H3 : Hid (n3 = sgB (dig p k * c) ∧ Own W.heap.size w3 .u64 63 ao3 l3 c3 (mag (dig p k * c).natAbs)) := ⟨hs3, ho3.mono (by have := hbel.size; simpa using this)⟩; have hA3 : Below wr.heap.size wr (w3.alloc (.cells #[.bool n3, .slice ao3 l3 c3] 28)) := bnext hb3 ((Below.refl _ _).alloc (Nat.le_refl _) _); clear hs3 ho3 hb3')
      (try go_wp2_with fail)
      clear hHeld
      refine hK.out _ _ (by (try dsimp only); exact KS.out _ (bnext hbel hb3)) (fun hHeld => ?_)
      clear hK K
      (try simp only [Act.put, List.setIfInBounds_toArray, List.set_cons_zero, List.set_cons_succ])
      refine wpAnyH_ready (rs := [7]) (by decide +kernel) (by simp) ?_
      refine AllReadyH.cons (o := Oper.mk (some 20) _ _ _ _ _) rfl (fun K hK => ?_) AllReadyH.nil
      go_simp
      clear hHeld
      refine hK.out _ _ (by (try dsimp only); exact KS.out _ (bnext hbel hA3)) (fun hHeld => ?_)
      clear hK K
      (try simp only [Act.put, List.setIfInBounds_toArray, List.set_cons_zero, List.set_cons_succ])
      refine wpAnyH_ready (rs := [8]) (by decide +kernel) (by simp) ?_
      refine AllReadyH.cons (o := Oper.mk (some 21) _ _ _ _ _) rfl (fun K hK => ?_) AllReadyH.nil
      (refine wp_append_own _ _ _ 24 rfl W.heap.size 28 i0 (.agg #[.bool false, .slice none 0 0]) 2 32 Tryz.underlying24 hi hz0 hz1 hz2 rfl (by decide) _ _ _ rfl (owns_later2 HX.out.1 hA3) ⟨w3.heap.size, 0, none⟩ 1 1 [.bool n3, .slice ao3 l3 c3] rfl rfl (World.news_of_block (cs := #[.bool n3, .slice ao3 l3 c3]) (t := 28) (fr := (0, 0)) (heap_alloc_new w3 _)) (by simp [Value.oneCell']) h63.out hby.out (Nat.le_trans hbel.size hA3.size) ?_; intro v4 w4 hown4 hgrow hnil; have hb4 : Below W.heap.size W w4 := grown_owns2 (bnext hbel hA3) (Nat.le_trans hbel.size hA3.size) (owns_later2 HX.out.1 hA3) hgrow)
      clear hHeld
      refine hK.out _ _ (by (try dsimp only); exact KS.out _ hb4) (fun hHeld => ?_)
      clear hK K
      (try simp only [Act.put, List.setIfInBounds_toArray, List.set_cons_zero, List.set_cons_succ])
      refine wpAnyH_take (i := 9) (oi := Oper.mk (some 5) _ _ _ _ _) (v := ?_) rfl (by decide +kernel) (by decide +kernel) (by decide +kernel) (fun _ _ _ h => h) (Or.inl ⟨by rfl, ?_⟩) (by assumption) ?_
      rotate_left
      · (intro w hSw; (try dsimp only at hSw); go_simp <;> (try with_reducible rfl))
      (try simp only [Act.put, List.setIfInBounds_toArray, List.set_cons_zero, List.set_cons_succ])
      refine wpAnyH_done (by decide +kernel) ?_ _
      refine NoPanic.normal ?_
      all_goals go_wp2
      all_goals go_roundw
      all_goals first
        | (refine ⟨k + 1, by omega, by go_num, grown_owns2 (bnext hbel hA3) (Nat.le_trans hbel.size hA3.size) (owns_later2 HX.out.1 hA3) hgrow, ?_⟩
           rw [rsOf_tab, ← H3.out.1]
           exact lrow_push (by rw [rsOf_len, tab_len]) (owns_later2 HX.out.1 hA3) (HX.out.2.1.later hA3) (own_alloc H3.out.2) hown4 hgrow)
        | (simp [intOf]; omega)
    · obtain rfl : k = la := by omega
      go_wp2_with (go_at_call 47; refine (ptrim_any vo k vc _ _ HX.out.2.2.polyAt (by omega)).mono ?_; rintro e w1 ⟨m, hm, rfl, hp1, hb1⟩; clear hm)
      go_ret
      exact ⟨_, _, _, rfl, hp1, fun a ha => Nat.le_trans HW.out.1.size (owns_base HX.out.1 a ha), bnext HW.out.1 (bnext hbel hb1)⟩
end Go.Proofs.YtgcahkhpbcklfaaGreatDoor
namespace Go.Proofs.YtgcahkhpbcklfaaGreatDoor
open Go.RowKit
theorem lim_small (a : Int) (h : 0 ≤ a ∧ a < 18446744073709551616) : lim a ≤ 1 := mag_len_one (by omega)
def derF (p : List Int) (t : Nat) : Int := dig p (t + 1) * ((t : Int) + 1)
theorem plead_any (ao : Option Addr) (len cap : Nat) (p : List Int) (w : World) (hp : PolyAt w ao len cap p) (hl : len ≤ 1000) :
  Calls Tryz.prog 20 #[.slice ao len cap] w fun e w' => RefInt w w' e (dig p (len - 1)) := by
 have hbW : Below w.heap.size w (w.alloc (.cells #[.bool false, .slice none 0 0] 28)) := (Below.refl _ _).alloc (Nat.le_refl _) _
 by_cases h0 : len = 0
 ·
  subst h0
  have HZ : Hid (dig p (0 - 1) = 0) := dig_past (by rw [← hp.hlen]; omega)
  clear hp
  go_enter Tryz.func20, Tryz.ntmps20
  go_wp2_with (go_at_call 48; refine (rfrom_any 0 _ (by decide) (by decide)).mono ?_; rintro e w1 ⟨n1, ao1, l1, c1, rfl, hs, ho, hb1⟩; have HS : Hid (IntAt w1 n1 ao1 l1 c1 0) := ho.int hs; clear hs ho; have hf := (Fresh.new w).later hb1 (by simp); obtain ⟨g5, g3, g4⟩ := hf)
  exact bodyPost_ret (v := .agg #[.bool n1, .slice ao1 l1 c1]) (by simp [results, Tryz.results20, go_sem, g3, g4]) rfl
   ⟨_, _, _, _, rfl, ⟨by rw [HZ.out]; exact HS.out.sg, by rw [HZ.out]; exact HS.out.row.kept ⟨g5, g3, g4⟩ _ _⟩, below_store (bnext hbW hb1) (Nat.le_refl _) _ _⟩
 ·
  obtain ⟨k, rfl⟩ : ∃ k, len = k + 1 := ⟨len - 1, by omega⟩
  obtain ⟨b, off, n1, ao1, l1, c1, rfl, h0', h1', hi⟩ := hp.at (show k < k + 1 by omega)
  have h0 := (hbW.cell (p := ⟨b, off + k * 2, none⟩) (cell_lt h0')).trans h0'
  have h1 := (hbW.cell (p := ⟨b, off + k * 2 + 1, none⟩) (cell_lt h1')).trans h1'
  have hn : (((k + 1 : Nat) : Int) == 0) = false := by simp; omega
  have hki : ((k + 1 : Nat) : Int) - 1 = (k : Int) := by omega
  have hk1 : (k : Int) < ((k + 1 : Nat) : Int) := by omega
  have hk2 : (0 : Int) ≤ (k : Int) := by omega
  have HI : Hid (IntAt w n1 ao1 l1 c1 (dig p k)) := hi
  clear hp hi h0' h1'
  go_enter Tryz.func20, Tryz.ntmps20
  go_wp2
  exact bodyPost_ret (v := .agg #[.bool n1, .slice ao1 l1 c1]) (by simp [results, Tryz.results20, go_sem]) rfl
   ⟨_, _, _, _, rfl, HI.out.later ((Below.refl _ _).alloc (Nat.le_refl _) _), (Below.refl _ _).alloc (Nat.le_refl _) _⟩
end Go.Proofs.YtgcahkhpbcklfaaGreatDoor
