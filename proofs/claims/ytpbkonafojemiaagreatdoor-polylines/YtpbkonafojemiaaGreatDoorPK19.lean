/-
  A pack of walks and facts: UA, JJ, UB, UF.
-/
import Derived.Test.YtpbkonafojemiaaGreatDoorPK17
import Derived.Test.YtpbkonafojemiaaGreatDoorPK18
set_option maxRecDepth 100000
set_option maxHeartbeats 40000000
set_option linter.unusedVariables false
set_option linter.unusedSimpArgs false
namespace Go.Proofs.YtpbkonafojemiaaGreatDoor
open Go.RowKit
def trimN (l : List Int) : Nat → Nat
 | 0 => 0
 | n + 1 => if dig l n = 0 then trimN l n else n + 1
theorem trimN_le (l : List Int) (n : Nat) : trimN l n ≤ n := by
 induction n with
 | zero => exact Nat.le_refl _
 | succ n ih => unfold trimN; split <;> omega
theorem trimN_zero {l : List Int} {n : Nat} (h : dig l n = 0) : trimN l (n + 1) = trimN l n := by simp [trimN, h]
theorem trimN_keep {l : List Int} {n : Nat} (h : dig l n ≠ 0) : trimN l (n + 1) = n + 1 := by simp [trimN, h]
def trimL (l : List Int) : List Int := l.take (trimN l l.length)
theorem trimL_len (l : List Int) : (trimL l).length = trimN l l.length := by
 unfold trimL; rw [List.length_take]; exact Nat.min_eq_left (trimN_le _ _)
theorem trimN_lead {l : List Int} (h : Lead l) : trimN l l.length = l.length := by
 cases hl : l.length with
 | zero => rfl
 | succ n =>
  have := h (by omega)
  rw [hl] at this
  exact trimN_keep (by simpa using this)
theorem trimL_of_lead {l : List Int} (h : Lead l) : trimL l = l := by unfold trimL; rw [trimN_lead h, List.take_length]
def tab (n : Nat) (f : Nat → Int) : List Int := (List.range n).map f
theorem tab_len (n : Nat) (f : Nat → Int) : (tab n f).length = n := by simp [tab]
theorem tab_dig {n t : Nat} (f : Nat → Int) (h : t < n) : dig (tab n f) t = f t := by
 unfold tab dig
 rw [List.getD_eq_getElem?_getD, List.getElem?_map, List.getElem?_range h]; rfl
def FillSt (n : Nat) (f : Nat → Int) (k : Nat) (l : List Int) : Prop := l.length = n ∧ ∀ t, t < n → dig l t = if t < k then f t else 0
theorem FillSt.start (n : Nat) (f : Nat → Int) : FillSt n f 0 (List.replicate n 0) := ⟨by simp, fun t ht => by rw [rep_dig, if_neg (by omega)]⟩
theorem FillSt.step {n : Nat} {f : Nat → Int} {k : Nat} {l : List Int} (h : FillSt n f k l) (hk : k < n) : FillSt n f (k + 1) (l.set k (f k)) := by
 refine ⟨by simpa using h.1, fun t ht => ?_⟩
 rw [pdig_set _ _ _ _ (by rw [h.1]; exact ht)]
 by_cases e : t = k
 ·
  subst e; rw [if_pos rfl, if_pos (by omega)]
 ·
  rw [if_neg e, h.2 t ht]
  by_cases e2 : t < k
  ·
   rw [if_pos e2, if_pos (by omega)]
  ·
   rw [if_neg e2, if_neg (by omega)]
theorem FillSt.done {n : Nat} {f : Nat → Int} {l : List Int} (h : FillSt n f n l) : l = tab n f :=
 dig_ext (by rw [h.1, tab_len]) fun t ht => by rw [h.1] at ht; rw [h.2 t ht, if_pos ht, tab_dig _ ht]
def CoefO (B : Nat) (w : World) (g o : Nat) (v : Int) : Prop := ∃ n ao l c, (w.cell? ⟨g, o, none⟩ = some (.bool n) ∧ w.cell? ⟨g, o + 1, none⟩ = some (.slice ao l c)) ∧ n = sgB v ∧ Own B w .u64 56 ao l c (mag v.natAbs)
theorem CoefO.coef {B : Nat} {w : World} {g o : Nat} {v : Int} (h : CoefO B w g o v) : CoefAt w g o v := by
 obtain ⟨n, ao, l, c, hc, hs, ho⟩ := h
 exact ⟨n, ao, l, c, hc, ho.int hs⟩
structure PBlkO (B : Nat) (w : World) (g : Nat) (p : List Int) : Prop where
 soft : ∀ j, w.frozen? ⟨g, j, none⟩ = false
 coef : ∀ t, t < p.length → CoefO B w g (t * 2) (dig p t)
 apart : ∀ s t, s < p.length → t < p.length → s ≠ t → ∀ (a b : Addr) (l l' c c' : Nat), w.cell? ⟨g, s * 2 + 1, none⟩ = some (.slice (some a) l c) → w.cell? ⟨g, t * 2 + 1, none⟩ = some (.slice (some b) l' c') → a.block ≠ b.block
 away : ∀ t, t < p.length → ∀ (a : Addr) (l c : Nat), w.cell? ⟨g, t * 2 + 1, none⟩ = some (.slice (some a) l c) → a.block ≠ g
theorem PBlkO.blk {B : Nat} {w : World} {g : Nat} {p : List Int} (h : PBlkO B w g p) : PBlk w g p := ⟨h.soft, fun t ht => (h.coef t ht).coef⟩
theorem PBlkO.later {B : Nat} {w w' : World} {g : Nat} {p : List Int} (h : PBlkO B w g p) (hb : Below w.heap.size w w') (hg : g < w.heap.size) : PBlkO B w' g p := by
 have e : ∀ j, w'.cell? ⟨g, j, none⟩ = w.cell? ⟨g, j, none⟩ := fun j => hb.cell (p := ⟨g, j, none⟩) hg
 refine ⟨fun j => (hb.frozen (p := ⟨g, j, none⟩) hg).trans (h.soft j), fun t ht => ?_, fun s t hs ht hn a b l l' c c' h1 h2 => h.apart s t hs ht hn a b l l' c c' (by rw [← e]; exact h1) (by rw [← e]; exact h2), fun t ht a l c h1 => h.away t ht a l c (by rw [← e]; exact h1)⟩
 obtain ⟨n, ao, l, c, ⟨h0, h1⟩, hs, ho⟩ := h.coef t ht
 exact ⟨n, ao, l, c, ⟨(e _).trans h0, (e _).trans h1⟩, hs, ho.later hb⟩
theorem PBlkO.take {B : Nat} {w : World} {g : Nat} {p : List Int} (h : PBlkO B w g p) (n : Nat) : PBlkO B w g (p.take n) := by
 have hl : ∀ t, t < (p.take n).length → t < p.length ∧ t < n := fun t ht => by rw [List.length_take] at ht; omega
 exact ⟨h.soft, fun t ht => by rw [dig_take (hl t ht).2]; exact h.coef t (hl t ht).1, fun s t hs ht => h.apart s t (hl s hs).1 (hl t ht).1, fun t ht => h.away t (hl t ht).1⟩
theorem PBlkO.mono {B B' : Nat} {w : World} {g : Nat} {p : List Int} (h : PBlkO B w g p) (hB : B' ≤ B) : PBlkO B' w g p := by
 refine ⟨h.soft, fun t ht => ?_, h.apart, h.away⟩
 obtain ⟨n, ao, l, c, hc, hs, ho⟩ := h.coef t ht
 exact ⟨n, ao, l, c, hc, hs, ho.mono hB⟩
theorem own_lt {B : Nat} {w : World} {k : IntKind} {t : TypeId} {a : Addr} {l c : Nat} {zs : List Int} (h : Own B w k t (some a) l c zs) : B ≤ a.block ∧ a.block < w.heap.size := by
 rcases h with ⟨h, _⟩ | ⟨g, off, cur, h1, h2, h3, _⟩
 ·
  cases h
 ·
  cases h1; exact ⟨h2, heap_lt h3⟩
theorem PBlkO.put {B : Nat} {w w1 : World} {g t l c : Nat} {n : Bool} {ao : Option Addr} {p : List Int} {v : Int} (h : PBlkO B w g p) (hb : Below w.heap.size w w1) (hg : g < w.heap.size) (hB : B ≤ w.heap.size) (ht : t < p.length) (hsg : n = sgB v) (ho : Own w.heap.size w1 .u64 56 ao l c (mag v.natAbs)) : PBlkO B ((w1.setCell ⟨g, t * 2, none⟩ (.bool n)).setCell ⟨g, t * 2 + 1, none⟩ (.slice ao l c)) g (p.set t v) := by
 have h1 := h.later hb hg
 obtain ⟨n0, ao0, l0, c0, ⟨e0, e1⟩, _⟩ := h1.coef t ht
 have hne : ∀ {b : Nat}, b ≠ g → ∀ (x y : Value) (i j : Nat), ((w1.setCell ⟨g, i, none⟩ x).setCell ⟨g, j, none⟩ y).heap[b]? = w1.heap[b]? := fun hb x y i j => by
  rw [Below.heap_setCell _ ⟨g, j, none⟩ y _ hb, Below.heap_setCell _ ⟨g, i, none⟩ x _ hb]
 have keep : ∀ {B' : Nat} {bo : Option Addr} {k d : Nat} {zs : List Int}, (∀ a : Addr, bo = some a → a.block ≠ g) → Own B' w1 .u64 56 bo k d zs → Own B' ((w1.setCell ⟨g, t * 2, none⟩ (.bool n)).setCell ⟨g, t * 2 + 1, none⟩ (.slice ao l c)) .u64 56 bo k d zs := by
  intro B' bo k d zs ha hO
  rcases hO with hO | ⟨g', off, cur, q1, q2, q3, q4⟩
  ·
   exact Or.inl hO
  ·
   exact Or.inr ⟨g', off, cur, q1, q2, by rw [hne (ha _ q1)]; exact q3, q4⟩
 have hnew : ∀ a : Addr, ao = some a → w.heap.size ≤ a.block := fun a ha => by subst ha; exact (own_lt ho).1
 have c0' : ((w1.setCell ⟨g, t * 2, none⟩ (.bool n)).setCell ⟨g, t * 2 + 1, none⟩ (.slice ao l c)).cell? ⟨g, t * 2 + 1, none⟩ = some (.slice ao l c) := by simp [go_sem, e0, e1]
 have c1' : ∀ s, s ≠ t → ((w1.setCell ⟨g, t * 2, none⟩ (.bool n)).setCell ⟨g, t * 2 + 1, none⟩ (.slice ao l c)).cell? ⟨g, s * 2 + 1, none⟩ = w1.cell? ⟨g, s * 2 + 1, none⟩ := fun s hs => by
  rw [setCell_ne (by rintro ⟨_, h⟩; simp only at h; omega), setCell_ne (by rintro ⟨_, h⟩; simp only at h; omega)]
 have c2' : ∀ s, s ≠ t → ((w1.setCell ⟨g, t * 2, none⟩ (.bool n)).setCell ⟨g, t * 2 + 1, none⟩ (.slice ao l c)).cell? ⟨g, s * 2, none⟩ = w1.cell? ⟨g, s * 2, none⟩ := fun s hs => by
  rw [setCell_ne (by rintro ⟨_, h⟩; simp only at h; omega), setCell_ne (by rintro ⟨_, h⟩; simp only at h; omega)]
 have old : ∀ s, s < p.length → ∀ (a : Addr) (k d : Nat), w1.cell? ⟨g, s * 2 + 1, none⟩ = some (.slice (some a) k d) → a.block < w.heap.size := by
  intro s hs a k d hc
  obtain ⟨m, bo, k', d', ⟨_, q1⟩, _, hO⟩ := h.coef s hs
  have q2 := (hb.cell (p := ⟨g, s * 2 + 1, none⟩) hg).trans q1
  rw [hc] at q2
  simp only [Option.some.injEq, Value.slice.injEq] at q2
  obtain ⟨q3, _⟩ := q2
  subst q3
  exact (own_lt hO).2
 refine ⟨fun j => by rw [soft_far, soft_far]; exact h1.soft j, fun s hs => ?_, fun s u hs hu hn a b k k' d d' q1 q2 => ?_, fun s hs a k d q1 => ?_⟩
 ·
  rw [List.length_set] at hs
  rw [pdig_set _ _ _ _ hs]
  by_cases e : s = t
  ·
   subst e
   rw [if_pos rfl]
   exact ⟨n, ao, l, c, ⟨by simp [go_sem, e0, e1], c0'⟩, hsg, keep (fun a ha => by have := hnew a ha; omega) (ho.mono hB)⟩
  ·
   rw [if_neg e]
   obtain ⟨m, bo, k, d, ⟨q0, q1⟩, q2, hO⟩ := h1.coef s hs
   exact ⟨m, bo, k, d, ⟨by rw [c2' s e]; exact q0, by rw [c1' s e]; exact q1⟩, q2, keep (fun a ha => by subst ha; exact h1.away s hs a k d q1) hO⟩
 ·
  rw [List.length_set] at hs hu
  by_cases e1 : s = t
  ·
   subst e1
   rw [c0'] at q1
   rw [c1' u (Ne.symm hn)] at q2
   simp only [Option.some.injEq, Value.slice.injEq] at q1
   have := hnew a q1.1
   have := old u hu b k' d' q2
   omega
  ·
   rw [c1' s e1] at q1
   by_cases e2 : u = t
   ·
    subst e2
    rw [c0'] at q2
    simp only [Option.some.injEq, Value.slice.injEq] at q2
    have := hnew b q2.1
    have := old s hs a k d q1
    omega
   ·
    rw [c1' u e2] at q2
    exact h1.apart s u hs hu hn a b k k' d d' q1 q2
 ·
  rw [List.length_set] at hs
  by_cases e : s = t
  ·
   subst e
   rw [c0'] at q1
   simp only [Option.some.injEq, Value.slice.injEq] at q1
   have := hnew a q1.1
   omega
  ·
   rw [c1' s e] at q1
   exact h1.away s hs a k d q1
theorem pblkO_of_made {w w' : World} {B C n : Nat} {t : TypeId} (h : w'.ownsRow B t 2 (.slice (some ⟨w.heap.size, 0, none⟩) n n) n (madeCells (Value.agg #[.bool false, .slice none 0 0]).cells (n * 2)).toList) : PBlkO C w' w.heap.size (List.replicate n 0) ∧ w.heap.size < w'.heap.size := by
 obtain ⟨_, h2⟩ := h
 rcases h2 with ⟨h2, _⟩ | ⟨g', cap, cur, hv, hg, hh, hc1, _, hs, ht⟩
 ·
  cases h2
 ·
  simp only [Value.slice.injEq, Option.some.injEq, Addr.mk.injEq] at hv
  obtain ⟨⟨hge, _⟩, _, hce⟩ := hv
  subst hge
  subst hce
  have hcell : ∀ j, j < n * 2 → w'.cell? ⟨w.heap.size, j, none⟩ = some (if j % 2 = 0 then .bool false else .slice none 0 0) := by
   intro j hj
   have e1 : cur.toList[j]? = (madeCells (Value.agg #[.bool false, .slice none 0 0]).cells (n * 2)).toList[j]? := by
    rw [← ht, List.getElem?_take, if_pos hj]
   have e2 : (madeCells (Value.agg #[.bool false, .slice none 0 0]).cells (n * 2)).toList[j]? = some (if j % 2 = 0 then .bool false else .slice none 0 0) := by
    simp only [madeCells, Array.toList_map, List.getElem?_map, Array.toList_range, List.getElem?_range hj, Option.map_some]
    congr 1
    have e3 : (Value.agg #[.bool false, .slice none 0 0]).cells = #[.bool false, .slice none 0 0] := by simp [Value.cells]
    rw [e3]
    have : j % 2 = 0 ∨ j % 2 = 1 := by omega
    rcases this with h | h <;> simp [h]
   rw [e2] at e1
   simp only [World.cell?, hh]
   simpa using e1
  have hodd : ∀ t, t < n → w'.cell? ⟨w.heap.size, t * 2 + 1, none⟩ = some (.slice none 0 0) := fun t ht => by rw [hcell _ (by omega), if_neg (by omega)]
  have hno : ∀ t, t < (List.replicate n (0 : Int)).length → ∀ (a : Addr) (l c : Nat), ¬ w'.cell? ⟨w.heap.size, t * 2 + 1, none⟩ = some (.slice (some a) l c) := fun t ht a l c q => by
   rw [hodd t (by simpa using ht)] at q
   simp at q
  refine ⟨⟨fun j => by simp [World.frozen?, hh], fun t ht => ?_, fun s t hs _ _ a b l l' c c' q _ => absurd q (hno s hs a l c), fun t ht a l c q => absurd q (hno t ht a l c)⟩, heap_lt hh⟩
  have ht' : t < n := by simpa using ht
  rw [rep_dig]
  exact ⟨false, none, 0, 0, ⟨by rw [hcell _ (by omega), if_pos (by omega)], hodd t ht'⟩, rfl, Or.inl ⟨rfl, rfl, rfl, rfl⟩⟩
def POwn (B : Nat) (w : World) (ao : Option Addr) (len cap : Nat) (p : List Int) : Prop :=
 len = p.length ∧ cap = len ∧ ((len = 0 ∧ ao = none) ∨ (0 < len ∧ ∃ g, ao = some ⟨g, 0, none⟩ ∧ B ≤ g ∧ g < w.heap.size ∧ PBlkO B w g p))
theorem POwn.nil (B : Nat) (w : World) : POwn B w none 0 0 [] := ⟨rfl, rfl, Or.inl ⟨rfl, rfl⟩⟩
theorem POwn.poly {B : Nat} {w : World} {ao : Option Addr} {len cap : Nat} {p : List Int} (h : POwn B w ao len cap p) : PolyAt w ao len cap p := by
 obtain ⟨h1, h2, h3⟩ := h
 subst h2
 rcases h3 with ⟨h0, rfl⟩ | ⟨h0, g, rfl, _, _, hp⟩
 ·
  subst h0
  obtain rfl : p = [] := List.eq_nil_of_length_eq_zero h1.symm
  exact PolyAt.nilPoly _
 ·
  exact hp.blk.poly h1
theorem POwn.later {B : Nat} {w w' : World} {ao : Option Addr} {len cap : Nat} {p : List Int} (h : POwn B w ao len cap p) (hb : Below w.heap.size w w') : POwn B w' ao len cap p := by
 obtain ⟨h1, h2, h3⟩ := h
 refine ⟨h1, h2, ?_⟩
 rcases h3 with h3 | ⟨h0, g, h4, h5, h6, hp⟩
 ·
  exact Or.inl h3
 ·
  exact Or.inr ⟨h0, g, h4, h5, Nat.lt_of_lt_of_le h6 hb.size, hp.later hb h6⟩
theorem POwn.mono {B B' : Nat} {w : World} {ao : Option Addr} {len cap : Nat} {p : List Int} (h : POwn B w ao len cap p) (hB : B' ≤ B) : POwn B' w ao len cap p := by
 obtain ⟨h1, h2, h3⟩ := h
 refine ⟨h1, h2, ?_⟩
 rcases h3 with h3 | ⟨h0, g, h4, h5, h6, hp⟩
 ·
  exact Or.inl h3
 ·
  exact Or.inr ⟨h0, g, h4, Nat.le_trans hB h5, h6, hp.mono hB⟩
theorem PBlkO.trim {B : Nat} {w : World} {g : Nat} {l : List Int} (h : PBlkO B w g l) (hB : B ≤ g) (hg : g < w.heap.size) {ao : Option Addr} {m : Nat} (hm : m = trimN l l.length) (h0 : m = 0 → ao = none) (h1 : 0 < m → ao = some ⟨g, 0, none⟩) : POwn B w ao m m (trimL l) := by
 refine ⟨by rw [trimL_len]; exact hm, rfl, ?_⟩
 rcases Nat.eq_zero_or_pos m with e | e
 ·
  exact Or.inl ⟨e, h0 e⟩
 ·
  exact Or.inr ⟨e, g, h1 e, hB, hg, h.take _⟩
end Go.Proofs.YtpbkonafojemiaaGreatDoor
namespace Go.Proofs.YtpbkonafojemiaaGreatDoor
open Go.RowKit
theorem ptrim_lead (ao : Option Addr) (len cap : Nat) (p : List Int) (w : World) (hp : PolyAt w ao len cap p) (hpos : 0 < len) (hl : len ≤ 1048576) (hL : Lead p) :
  Calls Tryz.prog 23 #[.slice ao len cap] w fun e w' => e = .returned (.slice ao len cap) ∧ Below w.heap.size w w' := by
 obtain ⟨b, off, rfl, hat⟩ := hp.get hpos
 obtain ⟨n1, ao1, l1, c1, ⟨e0, e1⟩, hi1⟩ := hat (len - 1) (by omega)
 have hz : ((l1 : Int) == 0) = false := by
  have h3 := hL (by rw [← hp.hlen]; exact hpos)
  rw [← hp.hlen] at h3
  have h4 := lim_pos h3
  have h5 := hi1.lim
  simp; omega
 have hcon : ∀ W', Calls Tryz.prog 32 #[.agg #[.bool n1, .slice ao1 l1 c1]] W' fun e w' => e = .returned (.bool false) ∧ Below W'.heap.size W' w' := fun W' => rzero_any n1 ao1 l1 c1 W' false hz
 have hcap := hp.hcap
 have hidx : (len : Int) - 1 = ((len - 1 : Nat) : Int) := by omega
 have hk1 : len - 1 < len := by omega
 have hpI : (0 : Int) < (len : Int) := by omega
 have y1 : (0 : Int) ≤ (len : Int) := by omega
 have y2 : (len : Int) ≤ (cap : Int) := by omega
 clear hp hL hat hi1 hz
 go_enter Tryz.func23, Tryz.ntmps23
 go_wp2
 go_loopw [3] (fun i wr => i = .int .i64 (len : Int) ∧ wr = w) (fun i _ => 0)
 case atStart => exact ⟨rfl, rfl⟩
 case round =>
  obtain ⟨rfl, rfl⟩ := hrel
  go_wp2_with (go_at_call 32; refine (hcon _).mono ?_; rintro e w1 ⟨rfl, hb1⟩)
  go_ret
  exact ⟨rfl, hb1⟩
theorem PolyAt.at {w : World} {ao : Option Addr} {len cap k : Nat} {p : List Int} (h : PolyAt w ao len cap p) (hk : k < len) : ∃ b off n1 ao1 l1 c1, ao = some ⟨b, off, none⟩ ∧ w.cell? ⟨b, off + k * 2, none⟩ = some (.bool n1) ∧ w.cell? ⟨b, off + k * 2 + 1, none⟩ = some (.slice ao1 l1 c1) ∧ IntAt w n1 ao1 l1 c1 (dig p k) := by
 obtain ⟨b, off, h1, hat⟩ := h.get (by omega)
 obtain ⟨n1, ao1, l1, c1, ⟨h0, h1'⟩, hi⟩ := hat k hk
 exact ⟨b, off, n1, ao1, l1, c1, h1, h0, h1', hi⟩
theorem lim_set {M D : Nat} {l : List Int} {j : Nat} {v : Int} (h : Lim M l) (hv : lim v ≤ M + D) : Lim (M + D) (l.set j v) := by
 intro t
 by_cases ht : t < l.length
 ·
  rw [pdig_set _ _ _ _ ht]
  split
  ·
   exact hv
  ·
   exact Nat.le_trans (h t) (by omega)
 ·
  rw [dig_past (by simp; omega), lim_zero]; omega
theorem mul_lims {M A i k : Nat} {a b : Int} {l : List Int} (h : Lim (M * (2 * A + 1)) l) (ha : lim a ≤ A) (hb : lim b ≤ A) : Lim ((M + 1) * (2 * A + 1)) (l.set (i + k) (dig l (i + k) + a * b)) := by
 rw [Nat.succ_mul]
 refine lim_set h ?_
 have h1 := lim_add (dig l (i + k)) (a * b)
 have h2 := lim_mul a b
 have h3 := h (i + k)
 omega
theorem ptimes_new (ao bo : Option Addr) (la ca lb cb A : Nat) (p s : List Int) (w : World) (hp : PolyAt w ao la ca p) (hs : PolyAt w bo lb cb s) (hla : 0 < la) (hlb : 0 < lb) (hla' : la ≤ 20) (hlb' : lb ≤ 20) (hA : A ≤ 100000) (hlp : Lim A p) (hls : Lim A s) (hLp : Lead p) (hLs : Lead s) :
  Calls Tryz.prog 9 #[.slice ao la ca, .slice bo lb cb] w fun e w' => ∃ g N, w.heap.size ≤ g ∧ N = (mulL p s).length ∧ e = .returned (.slice (some ⟨g, 0, none⟩) N N) ∧ PolyAt w' (some ⟨g, 0, none⟩) N N (mulL p s) ∧ Lim (400 * (2 * A + 1)) (mulL p s) ∧ Below w.heap.size w w' := by
 have HR : Hid (PolyAt w ao la ca p ∧ PolyAt w bo lb cb s ∧ Lim A p ∧ Lim A s ∧ la = p.length ∧ lb = s.length) := ⟨hp, hs, hlp, hls, hp.hlen, hs.hlen⟩
 have HL : Hid (Lead p ∧ Lead s) := ⟨hLp, hLs⟩
 clear hp hs hlp hls hLp hLs
 obtain ⟨N, hN⟩ : ∃ N : Nat, N + 1 = la + lb := ⟨la + lb - 1, by omega⟩
 have hNI : (la : Int) + (lb : Int) - 1 = (N : Int) := by omega
 have HN : Hid (N = p.length + s.length - 1 ∧ N + 1 = la + lb) := ⟨by have := HR.out.2.2.2.2; omega, hN⟩
 have hN40 : N ≤ 40 := by omega
 clear hN
 have q1 : ((la : Int) == 0) = false := by simp; omega
 have q2 : ((lb : Int) == 0) = false := by simp; omega
 obtain ⟨i0, hi, hz0, hz1, hz2⟩ := info_parts infoInt
 have b1 : Hid (i0.bytes * N ≤ 281474976710656) := by show _ ≤ _; rw [hz2]; omega
 have b2 : Hid (N ≤ maxLen) := by show _ ≤ _; unfold maxLen; omega
 go_enter Tryz.func9, Tryz.ntmps9
 go_wp2_with (at_make; refine wpList_make_full _ rfl (.tmp 21) (.tmp 21) 24 rfl w.heap.size 28 i0 (.agg #[.bool false, .slice none 0 0]) 2 Tryz.underlying24 hi hz0 hz1 .i64 .i64 _ _ N rfl rfl rfl rfl b1.out b2.out (Nat.le_refl _) ?_; intro w1 hown1 hgrow1)
 have HM : Hid (PBlk w1 w.heap.size (List.replicate N 0) ∧ w.heap.size < w1.heap.size ∧ Below w.heap.size w w1) := ⟨(pblk_of_made hown1).1, (pblk_of_made hown1).2, grown_below hgrow1⟩
 clear hown1 hgrow1 hNI
 go_loopw [6] (fun ii wr => ∃ (i : Nat) (l : List Int), i ≤ la ∧ ii = .int .i64 i ∧ Below w.heap.size w wr ∧ w.heap.size < wr.heap.size ∧ PBlk wr w.heap.size l ∧ PMulSt p s i 0 l ∧ Lim (i * lb * (2 * A + 1)) l) (fun ii _ => la - (intOf ii).toNat)
 case atStart => exact ⟨0, _, Nat.zero_le _, rfl, HM.out.2.2, HM.out.2.1, HM.out.1, by rw [HN.out.1]; exact PMulSt.start p s, fun t => by rw [rep_dig, lim_zero]; omega⟩
 case round =>
  obtain ⟨i, l, hi', rfl, hbel, hgw, hPB, hst, hlm⟩ := hrel
  have HS : Hid (PBlk wr w.heap.size l ∧ PMulSt p s i 0 l ∧ Below w.heap.size w wr ∧ Lim (i * lb * (2 * A + 1)) l) := ⟨hPB, hst, hbel, hlm⟩
  clear hPB hst hbel hlm
  by_cases hlt : i < la
  ·
   go_wp2
   go_loopw [7] (fun kk w3 => ∃ (k : Nat) (l : List Int), k ≤ lb ∧ kk = .int .i64 k ∧ Below w.heap.size w w3 ∧ w.heap.size < w3.heap.size ∧ PBlk w3 w.heap.size l ∧ PMulSt p s i k l ∧ Lim ((i * lb + k) * (2 * A + 1)) l) (fun kk _ => lb - (intOf kk).toNat)
   case atStart => exact ⟨0, l, Nat.zero_le _, rfl, HS.out.2.2.1, hgw, HS.out.1, HS.out.2.1, HS.out.2.2.2⟩
   case round =>
    obtain ⟨k, lk, hk, rfl, hbel, hgk, hPB, hst, hlm⟩ := hrel
    have HT : Hid (PBlk wr w.heap.size lk ∧ PMulSt p s i k lk ∧ Below w.heap.size w wr ∧ Lim ((i * lb + k) * (2 * A + 1)) lk) := ⟨hPB, hst, hbel, hlm⟩
    by_cases hkl : k < lb
    ·
     have hlk : lk.length = N := by rw [hst.1]; exact HN.out.1.symm
     have hik : i + k < N := by have := HN.out.2; omega
     obtain ⟨n1, ao1, l1, c1, ⟨e0, e1⟩, hi1⟩ := hPB.coef (i + k) (by omega)
     obtain ⟨b2', off2, n2, ao2, l2, c2, rfl, f0, f1, hi2⟩ := (HR.out.1.later hbel).at hlt
     obtain ⟨b3', off3, n3, ao3, l3, c3, rfl, g0, g1, hi3⟩ := (HR.out.2.1.later hbel).at hkl
     have hM : (i * lb + k) * (2 * A + 1) ≤ 80000000 + 400 := by
      have h1 : i * lb ≤ 19 * 20 := Nat.mul_le_mul (by omega) (by omega)
      have h2 : (i * lb + k) * (2 * A + 1) ≤ 400 * 200001 := Nat.mul_le_mul (by omega) (by omega)
      omega
     have hl1 : l1 ≤ 90000000 := by rw [hi1.lim]; have := hlm (i + k); omega
     have hl2 : l2 ≤ 100000 := by rw [hi2.lim]; have := HR.out.2.2.1 i; omega
     have hl3 : l3 ≤ 100000 := by rw [hi3.lim]; have := HR.out.2.2.2.1 k; omega
     have HI : Hid (IntAt wr n1 ao1 l1 c1 (dig lk (i + k)) ∧ IntAt wr n2 ao2 l2 c2 (dig p i) ∧ IntAt wr n3 ao3 l3 c3 (dig s k) ∧ i + k < lk.length) := ⟨hi1, hi2, hi3, by omega⟩
     have hfz := hPB.soft
     have z1 : (0 : Int) ≤ (i : Int) := by omega
     have z2 : (i : Int) < (la : Int) := by omega
     have z3 : (0 : Int) ≤ (k : Int) := by omega
     have z4 : (k : Int) < (lb : Int) := by omega
     have z5 : IntKind.i64.wrap ((i : Int) + (k : Int)) = (i : Int) + (k : Int) := by rw [IntKind.wrap_i64]; omega
     have z6 : ((i : Int) + (k : Int)).toNat = i + k := by omega
     have z7 : (0 : Int) ≤ (i : Int) + (k : Int) := by omega
     have z8 : (i : Int) + (k : Int) < (N : Int) := by omega
     clear hPB hst hlk hi1 hi2 hi3 hlm hM
     go_wp2
     go_region_with (first
      | (go_at_call 22; refine (rtimes_any n2 n3 ao2 ao3 l2 c2 l3 c3 (dig p i) (dig s k) _ (HI.out.2.1.later (Below.refl _ _).drew) (HI.out.2.2.1.later (Below.refl _ _).drew) (by omega) (by omega)).mono ?_; rintro e w4 ⟨n4, ao4, l4, c4, rfl, hs4, ho4, hb4'⟩; have hb4 : Below wr.heap.size wr w4 := bnext (Below.refl _ _).drew hb4'; clear hb4'; have HI4 : Hid (IntAt w4 n4 ao4 l4 c4 (dig p i * dig s k) ∧ IntAt w4 n1 ao1 l1 c1 (dig lk (i + k))) := ⟨ho4.int hs4, HI.out.1.later hb4⟩; have hl4 : l4 ≤ 200000 := (by have h1 := (ho4.int hs4).lim; have h2 := lim_mul (dig p i) (dig s k); have h3 := HR.out.2.2.1 i; have h4 := HR.out.2.2.2.1 k; omega); clear hs4 ho4; obtain ⟨t0, t1, t2⟩ : w4.cell? ⟨w.heap.size, (i + k) * 2, none⟩ = some (.bool n1) ∧ w4.cell? ⟨w.heap.size, (i + k) * 2 + 1, none⟩ = some (.slice ao1 l1 c1) ∧ (∀ m, w4.frozen? ⟨w.heap.size, m, none⟩ = false) := ⟨(hb4.cell (p := ⟨w.heap.size, (i + k) * 2, none⟩) hgk).trans e0, (hb4.cell (p := ⟨w.heap.size, (i + k) * 2 + 1, none⟩) hgk).trans e1, fun m => (hb4.frozen (p := ⟨w.heap.size, m, none⟩) hgk).trans (hfz m)⟩)
      | (go_at_call 21; refine (rplus_any n1 n4 ao1 ao4 l1 c1 l4 c4 (dig lk (i + k)) (dig p i * dig s k) w4 HI4.out.2 HI4.out.1 (by omega) (by omega)).mono ?_; rintro e w5 ⟨n5, ao5, l5, c5, rfl, hi5, hb5⟩; have HI5 : Hid (IntAt w5 n5 ao5 l5 c5 (dig lk (i + k) + dig p i * dig s k)) := hi5; have hb6 : Below wr.heap.size wr w5 := bnext hb4 hb5; obtain ⟨r0, r1, r2⟩ : w5.cell? ⟨w.heap.size, (i + k) * 2, none⟩ = some (.bool n1) ∧ w5.cell? ⟨w.heap.size, (i + k) * 2 + 1, none⟩ = some (.slice ao1 l1 c1) ∧ (∀ m, w5.frozen? ⟨w.heap.size, m, none⟩ = false) := ⟨(hb6.cell (p := ⟨w.heap.size, (i + k) * 2, none⟩) hgk).trans e0, (hb6.cell (p := ⟨w.heap.size, (i + k) * 2 + 1, none⟩) hgk).trans e1, fun m => (hb6.frozen (p := ⟨w.heap.size, m, none⟩) hgk).trans (hfz m)⟩; clear hi5 hb5))
     all_goals go_wp2
     all_goals go_roundw
     all_goals first
      | exact ⟨k + 1, lk.set (i + k) (dig lk (i + k) + dig p i * dig s k), by omega, by go_num, ((bnext HT.out.2.2.1 hb6).setCell (p := ⟨w.heap.size, (i + k) * 2, none⟩) (Nat.le_refl _) _).setCell (p := ⟨w.heap.size, (i + k) * 2 + 1, none⟩) (Nat.le_refl _) _, by (have := hb6.size; simp; omega), (HT.out.1.later hb6 hgk).put HI.out.2.2.2 HI5.out, HT.out.2.1.step (by rw [← HR.out.2.2.2.2.1]; exact hlt) (by rw [← HR.out.2.2.2.2.2]; exact hkl), mul_lims HT.out.2.2.2 (HR.out.2.2.1 i) (HR.out.2.2.2.1 k)⟩
      | (simp [intOf]; omega)
    ·
     obtain rfl : k = lb := by omega
     have HO : Hid (PMulSt p s (i + 1) 0 lk) := PMulSt.row (by have := HT.out.2.1; rw [← HR.out.2.2.2.2.2]; exact this) (by rw [← HR.out.2.2.2.2.1]; exact hlt)
     go_wp2
     go_roundw
     case rel => exact ⟨i + 1, lk, by omega, by go_num, HT.out.2.2.1, hgk, HT.out.1, HO.out, by rw [Nat.succ_mul]; exact HT.out.2.2.2⟩
     case measure => simp [intOf]; omega
  ·
   obtain rfl : i = la := by omega
   have HD : Hid (l = mulL p s ∧ N = (mulL p s).length ∧ Lead (mulL p s) ∧ Lim (400 * (2 * A + 1)) l) := by
    have e1 : l = mulL p s := PMulSt.done (by have := HS.out.2.1; rw [← HR.out.2.2.2.2.1]; exact this) (by rw [← HR.out.2.2.2.2.2]; exact hlb)
    refine ⟨e1, by rw [mulL_len _ _ (by rw [← HR.out.2.2.2.2.2]; exact hlb)]; exact HN.out.1, mul_lead HL.out.1 HL.out.2 (by rw [← HR.out.2.2.2.2.1]; exact hla) (by rw [← HR.out.2.2.2.2.2]; exact hlb), HS.out.2.2.2.mono ?_⟩
    exact Nat.mul_le_mul (Nat.mul_le_mul hla' hlb') (Nat.le_refl _)
   have HPP : Hid (PolyAt wr (some ⟨w.heap.size, 0, none⟩) N N (mulL p s)) := by
    have := HS.out.1; rw [HD.out.1] at this; exact this.poly HD.out.2.1
   go_wp2_with (go_at_call 23; refine (ptrim_lead (some ⟨w.heap.size, 0, none⟩) N N (mulL p s) _ HPP.out (by have := HN.out.2; omega) (by omega) HD.out.2.2.1).mono ?_; rintro e w4 ⟨rfl, hb4⟩)
   go_ret
   exact ⟨w.heap.size, N, Nat.le_refl _, HD.out.2.1, rfl, HPP.out.later hb4, by rw [← HD.out.1]; exact HD.out.2.2.2, bnext HS.out.2.2.1 hb4⟩
end Go.Proofs.YtpbkonafojemiaaGreatDoor
namespace Go.Proofs.YtpbkonafojemiaaGreatDoor
open Go.RowKit
def Elems (B : Nat) (w : World) (xs : List Value) (rs : List (Bool × List Int)) : Prop := ∀ t, (ht : t < rs.length) → ∃ ao l c, xs[t * 2]? = some (.bool (rs[t]).1) ∧ xs[t * 2 + 1]? = some (.slice ao l c) ∧ Own B w .u64 56 ao l c (rs[t]).2
def LRow (B : Nat) (w : World) (v : Value) (rs : List (Bool × List Int)) : Prop := ∃ xs, w.ownsRow B 28 2 v rs.length xs ∧ Elems B w xs rs
theorem LRow.nil (B : Nat) (w : World) : LRow B w (.slice none 0 0) [] := ⟨[], World.ownsRow_nil _ _ _ _, fun t ht => absurd ht (by simp)⟩
theorem Elems.later {B : Nat} {w w' : World} {xs : List Value} {rs : List (Bool × List Int)} (h : Elems B w xs rs) (hb : Below w.heap.size w w') : Elems B w' xs rs := fun t ht => by
 obtain ⟨ao, l, c, h0, h1, h2⟩ := h t ht
 exact ⟨ao, l, c, h0, h1, h2.later hb⟩
theorem lrow_cells {B n : Nat} {w : World} {v : Value} {xs : List Value} (h : w.ownsRow B 28 2 v n xs) : ∃ ao cap, v = .slice ao n cap ∧ n ≤ cap ∧ (ao = none → cap = 0) ∧ (n = 0 ∨ ∃ g, ao = some ⟨g, 0, none⟩ ∧ ∀ j u, xs[j]? = some u → w.cell? ⟨g, j, none⟩ = some u) := by
 obtain ⟨hl, h⟩ := h
 rcases h with ⟨rfl, rfl⟩ | ⟨g, cap, cur, rfl, _, hh, hc, _, hs, ht⟩
 ·
  exact ⟨none, 0, rfl, Nat.le_refl _, fun _ => rfl, Or.inl rfl⟩
 ·
  refine ⟨_, cap, rfl, hc, fun e => (by cases e), Or.inr ⟨g, rfl, fun j u hj => ?_⟩⟩
  rw [← ht] at hj
  have hj2 : j < n * 2 := by
   rcases Nat.lt_or_ge j (n * 2) with q | q
   ·
    exact q
   ·
    rw [List.getElem?_eq_none (by simp; omega)] at hj; cases hj
  rw [List.getElem?_take_of_lt hj2] at hj
  simp [World.cell?, hh]
  simpa using hj
def rsOf (l : List Int) : List (Bool × List Int) := l.map fun a => (sgB a, mag a.natAbs)
theorem rsOf_len (l : List Int) : (rsOf l).length = l.length := by simp [rsOf]
theorem rsOf_get (l : List Int) (t : Nat) (h : t < (rsOf l).length) : (rsOf l)[t] = (sgB (dig l t), mag (dig l t).natAbs) := by
 have h' : t < l.length := by rwa [rsOf_len] at h
 have e : dig l t = l[t] := by unfold dig; rw [List.getD_eq_getElem?_getD, List.getElem?_eq_getElem h']; rfl
 rw [e]; simp [rsOf]
theorem LRow.poly {B : Nat} {w : World} {v : Value} {l : List Int} (h : LRow B w v (rsOf l)) : ∃ ao cap, v = .slice ao l.length cap ∧ PolyAt w ao l.length cap l := by
 obtain ⟨xs, ho, hx⟩ := h
 rw [rsOf_len] at ho
 obtain ⟨ao, cap, hv, hc, hn, hat⟩ := lrow_cells ho
 refine ⟨ao, cap, hv, rfl, hc, hn, ?_⟩
 rcases hat with h0 | ⟨g, hg, hcell⟩
 ·
  exact Or.inl h0
 ·
  refine Or.inr ⟨g, 0, hg, fun t ht => ?_⟩
  obtain ⟨ao', l', c', h0, h1, h2⟩ := hx t (by rw [rsOf_len]; exact ht)
  rw [rsOf_get] at h0 h2
  rw [Nat.zero_add]
  exact ⟨_, ao', l', c', ⟨hcell _ _ h0, hcell _ _ h1⟩, rfl, h2.row⟩
theorem LRow.raws {B : Nat} {w : World} {v : Value} {rs : List (Bool × List Int)} (h : LRow B w v rs) (hw : ∀ r ∈ rs, Wd 18446744073709551616 r.2) : ∃ ao cap, v = .slice ao rs.length cap ∧ RawsAt w ao rs.length cap rs := by
 obtain ⟨xs, ho, hx⟩ := h
 obtain ⟨ao, cap, hv, hc, hn, hat⟩ := lrow_cells ho
 refine ⟨ao, cap, hv, rfl, hc, hn, ?_⟩
 rcases hat with h0 | ⟨g, hg, hcell⟩
 ·
  exact Or.inl h0
 ·
  refine Or.inr ⟨g, 0, hg, fun t ht => ?_⟩
  obtain ⟨ao', l', c', h0, h1, h2⟩ := hx t ht
  rw [Nat.zero_add]
  exact ⟨ao', l', c', ⟨hcell _ _ h0, hcell _ _ h1⟩, h2.row, hw _ (List.getElem_mem ht)⟩
def NewPolyB (w w' : World) (e : Ending) (p : List Int) : Prop := ∃ ao len cap, e = .returned (.slice ao len cap) ∧ PolyAt w' ao len cap p ∧ (∀ a : Addr, ao = some a → w.heap.size ≤ a.block) ∧ Below w.heap.size w w'
theorem PolyAt.kept {w : World} {ao : Option Addr} {len cap r : Nat} {p : List Int} (h : PolyAt w ao len cap p) (hf : Fresh w r) (hne : ∀ a : Addr, ao = some a → a.block ≠ r) (x y : Value) : PolyAt ((w.setCell ⟨r, 0, none⟩ x).setCell ⟨r, 1, none⟩ y) ao len cap p := by
 refine ⟨h.hlen, h.hcap, h.hnil, ?_⟩
 rcases h.hat with h0 | ⟨b, off, h1, h2⟩
 ·
  exact Or.inl h0
 ·
  refine Or.inr ⟨b, off, h1, fun t ht => ?_⟩
  have hb := hne _ h1
  obtain ⟨n, ao', l, c, ⟨q0, q1⟩, hi⟩ := h2 t ht
  exact ⟨n, ao', l, c, ⟨by rw [setCell_ne (fun e => hb e.1), setCell_ne (fun e => hb e.1)]; exact q0, by rw [setCell_ne (fun e => hb e.1), setCell_ne (fun e => hb e.1)]; exact q1⟩, hi.sg, hi.row.kept hf _ _⟩
end Go.Proofs.YtpbkonafojemiaaGreatDoor
namespace Go.Proofs.YtpbkonafojemiaaGreatDoor
open Go.RowKit
theorem lim_small (a : Int) (h : 0 ≤ a ∧ a < 18446744073709551616) : lim a ≤ 1 := mag_len_one (by omega)
theorem ptimes_nil (ao bo : Option Addr) (la ca lb cb : Nat) (w : World) (h : la = 0 ∨ lb = 0) :
  Calls Tryz.prog 9 #[.slice ao la ca, .slice bo lb cb] w fun e w' => NewPolyB w w' e [] := by
 rcases Nat.eq_zero_or_pos la with e | e
 ·
  subst e
  clear h
  go_enter Tryz.func9, Tryz.ntmps9
  go_wp2
  go_ret
  exact ⟨_, _, _, rfl, PolyAt.nilPoly _, fun a ha => (by cases ha), Below.refl _ _⟩
 ·
  obtain rfl : lb = 0 := by omega
  have hn : ((la : Int) == 0) = false := by simp; omega
  clear h e
  go_enter Tryz.func9, Tryz.ntmps9
  go_wp2
  go_ret
  exact ⟨_, _, _, rfl, PolyAt.nilPoly _, fun a ha => (by cases ha), Below.refl _ _⟩
end Go.Proofs.YtpbkonafojemiaaGreatDoor
