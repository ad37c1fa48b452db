/-
  A pack of walks and facts: HJ, UA, VA, JJ, HU, HZ, IE, HX, IH, RG, RK, RPa.
-/
import Derived.Test.YtchmdfjmleoajaaGreatPG05
import Derived.Test.YtchmdfjmleoajaaGreatPG07
import Derived.Test.YtchmdfjmleoajaaGreatPG11
import Derived.Test.YtchmdfjmleoajaaGreatPG12
import Derived.Test.YtchmdfjmleoajaaGreatPG13
import Derived.Laws.BytesArg
import Derived.Shelf.Strconv.Itoa1
import Derived.Shelf.Strconv.Itoa2
import Derived.Lib.ItoaMem
import Derived.Lib.AppendIntMem
import Derived.Shelf.Strings.Repeat
import Derived.Lib.AppendStr
import Derived.Laws.Strings
import Derived.Shelf.Strings.Prefix
import Derived.Deep.RegionHeld3
import Derived.Shelf.Strings.Search1
import Derived.Lib.IndexLaws
import Derived.Deep.DeepCutAuto
set_option maxRecDepth 100000
set_option maxHeartbeats 40000000
set_option linter.unusedVariables false
set_option linter.unusedSimpArgs false
namespace Go.Proofs.YtchmdfjmleoajaaGreat
open Go.RowKit
theorem RowAt.cellKept {w : World} {k : IntKind} {ao : Option Addr} {len cap r j : Nat} {zs : List Int} {v : Value} (h : RowAt w k ao len cap zs) (hv : w.cell? ⟨r, j, none⟩ = some v) (hn : ∀ z, v ≠ .int k z) (x : Value) : RowAt (w.setCell ⟨r, j, none⟩ x) k ao len cap zs := by
 refine ⟨h.hlen, h.hcap, h.hnil, ?_⟩
 rcases h.hat with h0 | ⟨b, off, h1, hlt, h2⟩
 ·
  exact Or.inl h0
 ·
  refine Or.inr ⟨b, off, h1, by simpa [World.setCell] using hlt, fun t ht => ?_⟩
  have hc := h2 t ht
  rw [setCell_ne]
  ·
   exact hc
  ·
   rintro ⟨e1, e2⟩
   simp only at e1 e2
   rw [e1, e2, hv] at hc
   exact hn _ (Option.some.inj hc)
end Go.Proofs.YtchmdfjmleoajaaGreat
namespace Go.Proofs.YtchmdfjmleoajaaGreat
open Go.RowKit
def tab (n : Nat) (f : Nat → Int) : List Int := (List.range n).map f
theorem tab_len (n : Nat) (f : Nat → Int) : (tab n f).length = n := by simp [tab]
theorem tab_dig {n t : Nat} (f : Nat → Int) (h : t < n) : dig (tab n f) t = f t := by
 unfold tab dig
 rw [List.getD_eq_getElem?_getD, List.getElem?_map, List.getElem?_range h]; rfl
def FillSt (n : Nat) (f : Nat → Int) (k : Nat) (l : List Int) : Prop := l.length = n ∧ ∀ t, t < n → dig l t = if t < k then f t else 0
theorem FillSt.start (n : Nat) (f : Nat → Int) : FillSt n f 0 (List.replicate n 0) := ⟨by simp, fun t ht => by rw [rep_dig, if_neg (by omega)]⟩
theorem FillSt.step {n : Nat} {f : Nat → Int} {k : Nat} {l : List Int} (h : FillSt n f k l) (hk : k < n) : FillSt n f (k + 1) (l.set k (f k)) := by
 refine ⟨by simpa using h.1, fun t ht => ?_⟩
 rw [pdig_set _ _ _ _ (by rw [h.1]; exact ht)]
 by_cases e : t = k
 ·
  subst e; rw [if_pos rfl, if_pos (by omega)]
 ·
  rw [if_neg e, h.2 t ht]
  by_cases e2 : t < k
  ·
   rw [if_pos e2, if_pos (by omega)]
  ·
   rw [if_neg e2, if_neg (by omega)]
theorem FillSt.done {n : Nat} {f : Nat → Int} {l : List Int} (h : FillSt n f n l) : l = tab n f :=
 dig_ext (by rw [h.1, tab_len]) fun t ht => by rw [h.1] at ht; rw [h.2 t ht, if_pos ht, tab_dig _ ht]
def CoefO (B : Nat) (w : World) (g o : Nat) (v : Int) : Prop := ∃ n ao l c, (w.cell? ⟨g, o, none⟩ = some (.bool n) ∧ w.cell? ⟨g, o + 1, none⟩ = some (.slice ao l c)) ∧ n = sgB v ∧ Own B w .u64 77 ao l c (mag v.natAbs)
theorem CoefO.coef {B : Nat} {w : World} {g o : Nat} {v : Int} (h : CoefO B w g o v) : CoefAt w g o v := by
 obtain ⟨n, ao, l, c, hc, hs, ho⟩ := h
 exact ⟨n, ao, l, c, hc, ho.int hs⟩
structure PBlkO (B : Nat) (w : World) (g : Nat) (p : List Int) : Prop where
 soft : ∀ j, w.frozen? ⟨g, j, none⟩ = false
 coef : ∀ t, t < p.length → CoefO B w g (t * 2) (dig p t)
 apart : ∀ s t, s < p.length → t < p.length → s ≠ t → ∀ (a b : Addr) (l l' c c' : Nat), w.cell? ⟨g, s * 2 + 1, none⟩ = some (.slice (some a) l c) → w.cell? ⟨g, t * 2 + 1, none⟩ = some (.slice (some b) l' c') → a.block ≠ b.block
 away : ∀ t, t < p.length → ∀ (a : Addr) (l c : Nat), w.cell? ⟨g, t * 2 + 1, none⟩ = some (.slice (some a) l c) → a.block ≠ g
theorem PBlkO.blk {B : Nat} {w : World} {g : Nat} {p : List Int} (h : PBlkO B w g p) : PBlk w g p := ⟨h.soft, fun t ht => (h.coef t ht).coef⟩
theorem PBlkO.later {B : Nat} {w w' : World} {g : Nat} {p : List Int} (h : PBlkO B w g p) (hb : Below w.heap.size w w') (hg : g < w.heap.size) : PBlkO B w' g p := by
 have e : ∀ j, w'.cell? ⟨g, j, none⟩ = w.cell? ⟨g, j, none⟩ := fun j => hb.cell (p := ⟨g, j, none⟩) hg
 refine ⟨fun j => (hb.frozen (p := ⟨g, j, none⟩) hg).trans (h.soft j), fun t ht => ?_, fun s t hs ht hn a b l l' c c' h1 h2 => h.apart s t hs ht hn a b l l' c c' (by rw [← e]; exact h1) (by rw [← e]; exact h2), fun t ht a l c h1 => h.away t ht a l c (by rw [← e]; exact h1)⟩
 obtain ⟨n, ao, l, c, ⟨h0, h1⟩, hs, ho⟩ := h.coef t ht
 exact ⟨n, ao, l, c, ⟨(e _).trans h0, (e _).trans h1⟩, hs, ho.later hb⟩
theorem PBlkO.take {B : Nat} {w : World} {g : Nat} {p : List Int} (h : PBlkO B w g p) (n : Nat) : PBlkO B w g (p.take n) := by
 have hl : ∀ t, t < (p.take n).length → t < p.length ∧ t < n := fun t ht => by rw [List.length_take] at ht; omega
 exact ⟨h.soft, fun t ht => by rw [dig_take (hl t ht).2]; exact h.coef t (hl t ht).1, fun s t hs ht => h.apart s t (hl s hs).1 (hl t ht).1, fun t ht => h.away t (hl t ht).1⟩
theorem PBlkO.mono {B B' : Nat} {w : World} {g : Nat} {p : List Int} (h : PBlkO B w g p) (hB : B' ≤ B) : PBlkO B' w g p := by
 refine ⟨h.soft, fun t ht => ?_, h.apart, h.away⟩
 obtain ⟨n, ao, l, c, hc, hs, ho⟩ := h.coef t ht
 exact ⟨n, ao, l, c, hc, hs, ho.mono hB⟩
theorem own_lt {B : Nat} {w : World} {k : IntKind} {t : TypeId} {a : Addr} {l c : Nat} {zs : List Int} (h : Own B w k t (some a) l c zs) : B ≤ a.block ∧ a.block < w.heap.size := by
 rcases h with ⟨h, _⟩ | ⟨g, off, cur, h1, h2, h3, _⟩
 ·
  cases h
 ·
  cases h1; exact ⟨h2, heap_lt h3⟩
theorem PBlkO.put {B : Nat} {w w1 : World} {g t l c : Nat} {n : Bool} {ao : Option Addr} {p : List Int} {v : Int} (h : PBlkO B w g p) (hb : Below w.heap.size w w1) (hg : g < w.heap.size) (hB : B ≤ w.heap.size) (ht : t < p.length) (hsg : n = sgB v) (ho : Own w.heap.size w1 .u64 77 ao l c (mag v.natAbs)) : PBlkO B ((w1.setCell ⟨g, t * 2, none⟩ (.bool n)).setCell ⟨g, t * 2 + 1, none⟩ (.slice ao l c)) g (p.set t v) := by
 have h1 := h.later hb hg
 obtain ⟨n0, ao0, l0, c0, ⟨e0, e1⟩, _⟩ := h1.coef t ht
 have hne : ∀ {b : Nat}, b ≠ g → ∀ (x y : Value) (i j : Nat), ((w1.setCell ⟨g, i, none⟩ x).setCell ⟨g, j, none⟩ y).heap[b]? = w1.heap[b]? := fun hb x y i j => by
  rw [Below.heap_setCell _ ⟨g, j, none⟩ y _ hb, Below.heap_setCell _ ⟨g, i, none⟩ x _ hb]
 have keep : ∀ {B' : Nat} {bo : Option Addr} {k d : Nat} {zs : List Int}, (∀ a : Addr, bo = some a → a.block ≠ g) → Own B' w1 .u64 77 bo k d zs → Own B' ((w1.setCell ⟨g, t * 2, none⟩ (.bool n)).setCell ⟨g, t * 2 + 1, none⟩ (.slice ao l c)) .u64 77 bo k d zs := by
  intro B' bo k d zs ha hO
  rcases hO with hO | ⟨g', off, cur, q1, q2, q3, q4⟩
  ·
   exact Or.inl hO
  ·
   exact Or.inr ⟨g', off, cur, q1, q2, by rw [hne (ha _ q1)]; exact q3, q4⟩
 have hnew : ∀ a : Addr, ao = some a → w.heap.size ≤ a.block := fun a ha => by subst ha; exact (own_lt ho).1
 have c0' : ((w1.setCell ⟨g, t * 2, none⟩ (.bool n)).setCell ⟨g, t * 2 + 1, none⟩ (.slice ao l c)).cell? ⟨g, t * 2 + 1, none⟩ = some (.slice ao l c) := by simp [go_sem, e0, e1]
 have c1' : ∀ s, s ≠ t → ((w1.setCell ⟨g, t * 2, none⟩ (.bool n)).setCell ⟨g, t * 2 + 1, none⟩ (.slice ao l c)).cell? ⟨g, s * 2 + 1, none⟩ = w1.cell? ⟨g, s * 2 + 1, none⟩ := fun s hs => by
  rw [setCell_ne (by rintro ⟨_, h⟩; simp only at h; omega), setCell_ne (by rintro ⟨_, h⟩; simp only at h; omega)]
 have c2' : ∀ s, s ≠ t → ((w1.setCell ⟨g, t * 2, none⟩ (.bool n)).setCell ⟨g, t * 2 + 1, none⟩ (.slice ao l c)).cell? ⟨g, s * 2, none⟩ = w1.cell? ⟨g, s * 2, none⟩ := fun s hs => by
  rw [setCell_ne (by rintro ⟨_, h⟩; simp only at h; omega), setCell_ne (by rintro ⟨_, h⟩; simp only at h; omega)]
 have old : ∀ s, s < p.length → ∀ (a : Addr) (k d : Nat), w1.cell? ⟨g, s * 2 + 1, none⟩ = some (.slice (some a) k d) → a.block < w.heap.size := by
  intro s hs a k d hc
  obtain ⟨m, bo, k', d', ⟨_, q1⟩, _, hO⟩ := h.coef s hs
  have q2 := (hb.cell (p := ⟨g, s * 2 + 1, none⟩) hg).trans q1
  rw [hc] at q2
  simp only [Option.some.injEq, Value.slice.injEq] at q2
  obtain ⟨q3, _⟩ := q2
  subst q3
  exact (own_lt hO).2
 refine ⟨fun j => by rw [soft_far, soft_far]; exact h1.soft j, fun s hs => ?_, fun s u hs hu hn a b k k' d d' q1 q2 => ?_, fun s hs a k d q1 => ?_⟩
 ·
  rw [List.length_set] at hs
  rw [pdig_set _ _ _ _ hs]
  by_cases e : s = t
  ·
   subst e
   rw [if_pos rfl]
   exact ⟨n, ao, l, c, ⟨by simp [go_sem, e0, e1], c0'⟩, hsg, keep (fun a ha => by have := hnew a ha; omega) (ho.mono hB)⟩
  ·
   rw [if_neg e]
   obtain ⟨m, bo, k, d, ⟨q0, q1⟩, q2, hO⟩ := h1.coef s hs
   exact ⟨m, bo, k, d, ⟨by rw [c2' s e]; exact q0, by rw [c1' s e]; exact q1⟩, q2, keep (fun a ha => by subst ha; exact h1.away s hs a k d q1) hO⟩
 ·
  rw [List.length_set] at hs hu
  by_cases e1 : s = t
  ·
   subst e1
   rw [c0'] at q1
   rw [c1' u (Ne.symm hn)] at q2
   simp only [Option.some.injEq, Value.slice.injEq] at q1
   have := hnew a q1.1
   have := old u hu b k' d' q2
   omega
  ·
   rw [c1' s e1] at q1
   by_cases e2 : u = t
   ·
    subst e2
    rw [c0'] at q2
    simp only [Option.some.injEq, Value.slice.injEq] at q2
    have := hnew b q2.1
    have := old s hs a k d q1
    omega
   ·
    rw [c1' u e2] at q2
    exact h1.apart s u hs hu hn a b k k' d d' q1 q2
 ·
  rw [List.length_set] at hs
  by_cases e : s = t
  ·
   subst e
   rw [c0'] at q1
   simp only [Option.some.injEq, Value.slice.injEq] at q1
   have := hnew a q1.1
   omega
  ·
   rw [c1' s e] at q1
   exact h1.away s hs a k d q1
def POwn (B : Nat) (w : World) (ao : Option Addr) (len cap : Nat) (p : List Int) : Prop :=
 len = p.length ∧ cap = len ∧ ((len = 0 ∧ ao = none) ∨ (0 < len ∧ ∃ g, ao = some ⟨g, 0, none⟩ ∧ B ≤ g ∧ g < w.heap.size ∧ PBlkO B w g p))
theorem POwn.nil (B : Nat) (w : World) : POwn B w none 0 0 [] := ⟨rfl, rfl, Or.inl ⟨rfl, rfl⟩⟩
theorem POwn.poly {B : Nat} {w : World} {ao : Option Addr} {len cap : Nat} {p : List Int} (h : POwn B w ao len cap p) : PolyAt w ao len cap p := by
 obtain ⟨h1, h2, h3⟩ := h
 subst h2
 rcases h3 with ⟨h0, rfl⟩ | ⟨h0, g, rfl, _, _, hp⟩
 ·
  subst h0
  obtain rfl : p = [] := List.eq_nil_of_length_eq_zero h1.symm
  exact PolyAt.nilPoly _
 ·
  exact hp.blk.poly h1
theorem POwn.later {B : Nat} {w w' : World} {ao : Option Addr} {len cap : Nat} {p : List Int} (h : POwn B w ao len cap p) (hb : Below w.heap.size w w') : POwn B w' ao len cap p := by
 obtain ⟨h1, h2, h3⟩ := h
 refine ⟨h1, h2, ?_⟩
 rcases h3 with h3 | ⟨h0, g, h4, h5, h6, hp⟩
 ·
  exact Or.inl h3
 ·
  exact Or.inr ⟨h0, g, h4, h5, Nat.lt_of_lt_of_le h6 hb.size, hp.later hb h6⟩
theorem POwn.mono {B B' : Nat} {w : World} {ao : Option Addr} {len cap : Nat} {p : List Int} (h : POwn B w ao len cap p) (hB : B' ≤ B) : POwn B' w ao len cap p := by
 obtain ⟨h1, h2, h3⟩ := h
 refine ⟨h1, h2, ?_⟩
 rcases h3 with h3 | ⟨h0, g, h4, h5, h6, hp⟩
 ·
  exact Or.inl h3
 ·
  exact Or.inr ⟨h0, g, h4, Nat.le_trans hB h5, h6, hp.mono hB⟩
end Go.Proofs.YtchmdfjmleoajaaGreat
namespace Go.Proofs.YtchmdfjmleoajaaGreat
open Go.RowKit
def stL (k i : Nat) (p : List Int) : List Int := tab p.length fun t => if t < i then dig p t * ((2 ^ (k * t) : Nat) : Int) else dig p t
theorem stL_len (k i : Nat) (p : List Int) : (stL k i p).length = p.length := tab_len _ _
theorem stL_dig (k i : Nat) (p : List Int) {t : Nat} (h : t < p.length) : dig (stL k i p) t = if t < i then dig p t * ((2 ^ (k * t) : Nat) : Int) else dig p t := tab_dig _ h
theorem stL_zero (k : Nat) (p : List Int) : stL k 0 p = p :=
 dig_ext (stL_len _ _ _) fun t ht => by rw [stL_len] at ht; rw [stL_dig _ _ _ ht, if_neg (by omega)]
theorem stL_step (k i : Nat) (p : List Int) (h : i < p.length) : (stL k i p).set i (dig p i * ((2 ^ (k * i) : Nat) : Int)) = stL k (i + 1) p :=
 dig_ext (by simp [stL_len]) fun t ht => by
  have ht' : t < p.length := by simpa [stL_len] using ht
  rw [pdig_set _ _ _ _ (by rw [stL_len]; exact ht'), stL_dig _ _ _ ht', stL_dig _ _ _ ht']
  by_cases e : t = i
  ·
   subst e; simp
  ·
   rw [if_neg e]
   by_cases e2 : t < i
   ·
    rw [if_pos e2, if_pos (by omega)]
   ·
    rw [if_neg e2, if_neg (by omega)]
theorem ev_sum (p : List Int) (x : Int) (n : Nat) (h : n ≤ p.length) (q : List Int) (y : Int) (hq : q.length = p.length) (hd : ∀ t, t < p.length → dig q t * y ^ t = dig p t * x ^ t) : ev (q.take n) y = ev (p.take n) x := by
 induction n with
 | zero => simp [ev]
 | succ n ih => rw [ev_take _ _ _ (by omega), ev_take _ _ _ (by omega), ih (by omega), hd n (by omega)]
theorem st_ev (k : Nat) (p : List Int) (x : Int) : ev (stL k p.length p) x = ev p (x * ((2 ^ k : Nat) : Int)) := by
 have h := ev_sum p (x * ((2 ^ k : Nat) : Int)) p.length (Nat.le_refl _) (stL k p.length p) x (stL_len _ _ _) (fun t ht => by
  rw [stL_dig _ _ _ ht, if_pos ht, Int.mul_pow, Nat.pow_mul, Int.natCast_pow]
  rw [Int.mul_assoc, Int.mul_comm (((2 ^ k : Nat) : Int) ^ t)])
 rw [List.take_length (l := p), List.take_of_length_le (by rw [stL_len]; exact Nat.le_refl _)] at h
 exact h
theorem mir_ev (p : List Int) (x : Int) : ev (mir p.length p) x = ev p (-x) := by
 have h := ev_sum p (-x) p.length (Nat.le_refl _) (mir p.length p) x (mir_len _ _) (fun t ht => by
  rw [mir_dig _ _ _ ht]
  by_cases e : t % 2 = 1
  ·
   rw [if_pos ⟨ht, e⟩]
   have e2 : (-x) ^ t = -(x ^ t) := by
    rw [show t = 2 * (t / 2) + 1 by omega, Int.pow_succ, Int.pow_succ, Int.pow_mul, Int.pow_mul, show (-x) ^ 2 = x ^ 2 by rw [Int.pow_succ, Int.pow_succ, Int.pow_succ, Int.pow_succ]; simp [Int.neg_mul_neg], Int.mul_neg]
   rw [e2, Int.mul_neg, Int.neg_mul]
  ·
   rw [if_neg (fun h => e h.2)]
   have e2 : (-x) ^ t = x ^ t := by
    rw [show t = 2 * (t / 2) by omega, Int.pow_mul, Int.pow_mul, show (-x) ^ 2 = x ^ 2 by rw [Int.pow_succ, Int.pow_succ, Int.pow_succ, Int.pow_succ]; simp [Int.neg_mul_neg]]
   rw [e2])
 rw [List.take_length (l := p), List.take_of_length_le (by rw [mir_len]; exact Nat.le_refl _)] at h
 exact h
theorem stL_lead {k : Nat} {p : List Int} (h : Lead p) : Lead (stL k p.length p) := by
 intro h0
 rw [stL_len] at h0 ⊢
 rw [stL_dig _ _ _ (by omega), if_pos (by omega)]
 refine Int.mul_ne_zero (h h0) ?_
 have : 0 < 2 ^ (k * (p.length - 1)) := Nat.two_pow_pos _
 omega
theorem stretched_any (ao : Option Addr) (len cap k : Nat) (p : List Int) (w : World) (hp : PolyAt w ao len cap p) (hl : len ≤ 20) (hk : k ≤ 64) (hlim : Lim 1000000 p) :
  Calls Tryz.prog 32 #[.slice ao len cap, .int .i64 (k : Int)] w fun e w' => NewPB w w' e (stL k p.length p) := by
 have hcop := copied_any ao len cap p w hp (by omega) (hlim.mono (by decide))
 have HR : Hid (Lim 1000000 p ∧ len = p.length) := ⟨hlim, hp.hlen⟩
 have HSL : Hid ((stL k p.length p).length = len) := by show _ = _; rw [stL_len, ← hp.hlen]
 have hk0 : ¬ ((k : Int) < 0) := by omega
 clear hp hlim
 by_cases h0 : len = 0
 ·
  subst h0
  have hpe : Hid ((stL k p.length p).length = 0 ∧ p.length = 0) := ⟨HSL.out, HR.out.2.symm⟩
  go_enter Tryz.func32, Tryz.ntmps32
  go_wp2_with (first
   | (go_at_call 48; refine hcop.mono ?_; intro e w1 hN; rcases hN with ⟨_, rfl, hb1⟩ | ⟨hpos, _⟩; rotate_left 1; exact absurd hpos (by have := hpe.out.2; omega)))
  go_loopw [12] (fun i wr => i = .int .i64 0 ∧ wr = w1) (fun i _ => 0)
  case atStart => exact ⟨rfl, rfl⟩
  case round =>
   obtain ⟨rfl, rfl⟩ := hrel
   go_wp2
   go_ret
   exact Or.inl ⟨hpe.out.1, rfl, hb1⟩
 ·
  have hcop2 : Calls Tryz.prog 48 #[.slice ao len cap] w fun e w' => ∃ g, e = .returned (.slice (some ⟨g, 0, none⟩) len len) ∧ PBlk w' g p ∧ w.heap.size ≤ g ∧ g < w'.heap.size ∧ Below w.heap.size w w' := by
   refine hcop.mono fun e w1 hN => ?_
   rcases hN with ⟨hz, _⟩ | ⟨_, g, he, hrest⟩
   ·
    exact absurd hz (by have := HR.out.2; omega)
   ·
    exact ⟨g, by rw [HR.out.2]; exact he, hrest⟩
  have HP : Hid (0 < len) := by show 0 < _; omega
  clear hcop h0
  go_enter Tryz.func32, Tryz.ntmps32
  go_wp2_with (first
   | (go_at_call 48; refine hcop2.mono ?_; rintro e w1 ⟨g, rfl, hPB, hg1, hg2, hb1⟩; have HG : Hid (PBlk w1 g p ∧ w.heap.size ≤ g ∧ g < w1.heap.size ∧ Below w.heap.size w w1) := ⟨hPB, hg1, hg2, hb1⟩; clear hPB hg1 hg2 hb1))
  go_loopw [12] (fun i wr => ∃ (j : Nat), j ≤ len ∧ i = .int .i64 (j : Int) ∧ Below w.heap.size w wr ∧ g < wr.heap.size ∧ PBlk wr g (stL k j p)) (fun i _ => len - (intOf i).toNat)
  case atStart => exact ⟨0, Nat.zero_le _, rfl, HG.out.2.2.2, HG.out.2.2.1, by rw [stL_zero]; exact HG.out.1⟩
  case round =>
   obtain ⟨j, hj, rfl, hbel, hgw, hPB⟩ := hrel
   have HS : Hid (PBlk wr g (stL k j p) ∧ Below w.heap.size w wr) := ⟨hPB, hbel⟩
   by_cases hlt : j < len
   ·
    have hjp : j < p.length := by rw [← HR.out.2]; exact hlt
    obtain ⟨n1, ao1, l1, c1, ⟨e0, e1⟩, hi1⟩ := hPB.coef j (by rw [stL_len]; exact hjp)
    rw [stL_dig _ _ _ hjp, if_neg (by omega)] at hi1
    have HI : Hid (IntAt wr n1 ao1 l1 c1 (dig p j) ∧ j < (stL k j p).length ∧ j < p.length) := ⟨hi1, by rw [stL_len]; exact hjp, hjp⟩
    have hl1 : l1 ≤ 1000000 := by rw [hi1.lim]; exact HR.out.1 j
    have hfz := hPB.soft
    obtain ⟨m, hm⟩ : ∃ m : Nat, m = k * j := ⟨_, rfl⟩
    have HM : Hid (m = k * j) := hm
    have hmI : (k : Int) * (j : Int) = (m : Int) := by rw [hm, Int.natCast_mul]
    have hm2 : m ≤ 1280 := by rw [hm]; exact Nat.le_trans (Nat.mul_le_mul hk (show j ≤ 20 by omega)) (by decide)
    have z1 : (0 : Int) ≤ (j : Int) := by omega
    have z2 : (j : Int) < (len : Int) := by omega
    clear hPB hbel hi1 hm hjp
    go_wp2_with (go_at_call 54; refine (bleft_any n1 ao1 l1 c1 m (dig p j) _ HI.out.1 (by omega) (by omega)).mono ?_; rintro e w2 ⟨n2, ao2, l2, c2, rfl, hs2, ho2, hb2⟩; have H2 : Hid (IntAt w2 n2 ao2 l2 c2 (dig p j * ((2 ^ (k * j) : Nat) : Int))) := (by rw [← HM.out]; exact ho2.int hs2); clear hs2 ho2 e0 e1 hfz; have HP2 := HS.out.1.later hb2 hgw; obtain ⟨n3, ao3, l3, c3, ⟨e0, e1⟩, _⟩ := HP2.coef j HI.out.2.1; have hfz := HP2.soft; clear HP2)
    go_roundw
    case rel => exact ⟨j + 1, by omega, by go_num, ((bnext HS.out.2 hb2).setCell (p := ⟨g, j * 2, none⟩) HG.out.2.1 _).setCell (p := ⟨g, j * 2 + 1, none⟩) HG.out.2.1 _, by (have := hb2.size; simp; omega), by rw [← stL_step _ _ _ HI.out.2.2]; exact (HS.out.1.later hb2 hgw).put HI.out.2.1 H2.out⟩
    case measure => simp [intOf]; omega
   ·
    obtain rfl : j = len := by omega
    go_wp2
    go_ret
    refine Or.inr ⟨by rw [HSL.out]; exact HP.out, g, by show _ = _; rw [HSL.out]; rfl, ?_, HG.out.2.1, hgw, HS.out.2⟩
    have := HS.out.1; rw [HR.out.2] at this; exact this
theorem checkStretch_ok (ao : Option Addr) (len cap k : Nat) (p : List Int) (w : World) (hp : PolyAt w ao len cap p) (hl : len ≤ 1025) (hL : Lead p) (hlim : Lim 4611686018427387904 p) (hk : k ≤ 64) :
  Calls Tryz.prog 31 #[.slice ao len cap, .int .i64 (k : Int)] w fun e w' => e = .returned .nilIface ∧ Below w.heap.size w w' := by
 have hcon := boundCheck_ok ao len cap p _ hp hl hL hlim
 have h1 : ¬ ((k : Int) < -64) := by omega
 have h2 : ¬ ((64 : Int) < (k : Int)) := by omega
 clear hp hL hlim
 go_enter Tryz.func31, Tryz.ntmps31
 go_wp2_with (go_at_call 29; refine hcon.mono ?_; rintro e w1 ⟨rfl, hb1⟩)
 go_ret
 exact ⟨rfl, hb1⟩
theorem bstretch_ok (ao : Option Addr) (len cap k : Nat) (p : List Int) (w : World) (hp : PolyAt w ao len cap p) (hl : len ≤ 20) (hL : Lead p) (hlim : Lim 1000000 p) (hk : k ≤ 64) :
  Calls Tryz.prog 10 #[.slice ao len cap, .int .i64 (k : Int)] w fun e w' => NewPolyErr w w' e (stL k p.length p) := by
 have hcon := checkStretch_ok ao len cap k p _ hp (by omega) hL (hlim.mono (by decide)) hk
 have HV : Hid (PolyAt w ao len cap p ∧ Lim 1000000 p) := ⟨hp, hlim⟩
 clear hp hL hlim
 go_enter Tryz.func10, Tryz.ntmps10
 go_wp2_with (first
  | (go_at_call 31; refine hcon.mono ?_; rintro e w1 ⟨rfl, hb1⟩)
  | (go_at_call 32; refine (stretched_any ao len cap k p _ (HV.out.1.later hb1) hl hk HV.out.2).mono ?_; intro e w2 hN; obtain ⟨ao2, l2, rfl, hp2, hb2⟩ := hN.at; clear hN))
 exact bodyPost_ret (v := .tuple #[.slice ao2 l2 l2, .int .i64 0]) (by simp [results, Tryz.results10, go_sem]) rfl ⟨_, _, rfl, hp2, bnext hb1 hb2⟩
end Go.Proofs.YtchmdfjmleoajaaGreat
namespace Go.Proofs.YtchmdfjmleoajaaGreat
open Go.RowKit
theorem PolyAt.at {w : World} {ao : Option Addr} {len cap k : Nat} {p : List Int} (h : PolyAt w ao len cap p) (hk : k < len) : ∃ b off n1 ao1 l1 c1, ao = some ⟨b, off, none⟩ ∧ w.cell? ⟨b, off + k * 2, none⟩ = some (.bool n1) ∧ w.cell? ⟨b, off + k * 2 + 1, none⟩ = some (.slice ao1 l1 c1) ∧ IntAt w n1 ao1 l1 c1 (dig p k) := by
 obtain ⟨b, off, h1, hat⟩ := h.get (by omega)
 obtain ⟨n1, ao1, l1, c1, ⟨h0, h1'⟩, hi⟩ := hat k hk
 exact ⟨b, off, n1, ao1, l1, c1, h1, h0, h1', hi⟩
end Go.Proofs.YtchmdfjmleoajaaGreat
namespace Go.Proofs.YtchmdfjmleoajaaGreat
open Go.RowKit
def byteAt (s : ByteArray) (k : Nat) : Nat := if h : k < s.size then s[k].toNat else 0
def decVal (s : ByteArray) : Nat → Nat
 | 0 => 0
 | k + 1 => decVal s k * 10 + (byteAt s k - 48)
end Go.Proofs.YtchmdfjmleoajaaGreat
namespace Go.Proofs.YtchmdfjmleoajaaGreat
open Go.RowKit
end Go.Proofs.YtchmdfjmleoajaaGreat
namespace Go.Proofs.YtchmdfjmleoajaaGreat
open Go.RowKit
structure TxSt (n : Nat) (E : List Int) (R : Nat) : Prop where
 wd : Wd 10 E
 eq : val 10 E + 10 ^ E.length * (R : Int) = (n : Int)
theorem TxSt.step {n R : Nat} {E : List Int} (h : TxSt n E R) : TxSt n (E ++ [((R % 10 : Nat) : Int)]) (R / 10) := by
 refine ⟨h.wd.append (Wd.one (by omega)), ?_⟩
 have h1 := h.eq
 rw [val_snoc, List.length_append, List.length_singleton, Int.pow_succ]
 have h2 : (R : Int) = ((R % 10 : Nat) : Int) + 10 * ((R / 10 : Nat) : Int) := by omega
 rw [h2] at h1
 rw [← h1]; grind
theorem TxSt.len {n R : Nat} {E : List Int} (h : TxSt n E R) (hR : 0 < R) {l : Nat} (hn : n < 18446744073709551616 ^ l) : E.length ≤ 64 * l := by
 have h1 := h.eq
 have h2 := val_nonneg (q := 10) (by decide) h.wd
 have h3 : (10 : Int) ^ E.length ≤ (n : Int) := by
  have : (10 : Int) ^ E.length * 1 ≤ 10 ^ E.length * (R : Int) := Int.mul_le_mul_of_nonneg_left (by omega) (Int.le_of_lt (Int.pow_pos (by decide)))
  omega
 have h4 : 10 ^ E.length ≤ n := by exact_mod_cast h3
 have h5 : 2 ^ E.length ≤ 10 ^ E.length := Nat.pow_le_pow_left (by decide) _
 have h6 : (18446744073709551616 : Nat) ^ l = 2 ^ (64 * l) := by rw [Nat.pow_mul]
 have h7 : 2 ^ E.length < 2 ^ (64 * l) := by omega
 exact Nat.le_of_lt ((Nat.pow_lt_pow_iff_right (by decide)).1 h7)
theorem TxSt.le {n R : Nat} {E : List Int} (h : TxSt n E R) : R ≤ n := by
 have h1 := h.eq
 have h2 := val_nonneg (q := 10) (by decide) h.wd
 have h3 : 1 * (R : Int) ≤ 10 ^ E.length * (R : Int) := Int.mul_le_mul_of_nonneg_right (by have := Int.pow_pos (n := 10) (m := E.length) (by decide); omega) (by omega)
 omega
end Go.Proofs.YtchmdfjmleoajaaGreat
namespace Go.Proofs.YtchmdfjmleoajaaGreat
open Go.RowKit
theorem owns_later {w w' : World} {B n : Nat} {t : TypeId} {v : Value} {xs : List Value} (h : w.ownsRow B t 1 v n xs) (hb : Below w.heap.size w w') : w'.ownsRow B t 1 v n xs := by
 refine ⟨h.1, ?_⟩
 rcases h.2 with hv | ⟨g, cap, cur, hv, hg, hh, hrest⟩
 ·
  exact Or.inl hv
 ·
  exact Or.inr ⟨g, cap, cur, hv, hg, by rw [hb.block g (heap_lt hh)]; exact hh, hrest⟩
end Go.Proofs.YtchmdfjmleoajaaGreat
namespace Go.Proofs.YtchmdfjmleoajaaGreat
open Go.RowKit Go.Sort Go.Lib
def Pow10 (w : World) : Prop := Lib.TabIs Tryz.prog w "internal/strconv.uint64pow10" .u64 Lib.pow10Tab
theorem Pow10.later {w w' : World} (h : Pow10 w) (hb : Below w.heap.size w w') : Pow10 w' := Lib.tabBelow_of_tabIs h w' hb
end Go.Proofs.YtchmdfjmleoajaaGreat
namespace Go.Proofs.YtchmdfjmleoajaaGreat
open Go.RowKit
def KeepT (w w' : World) : Prop := w.heap.size ≤ w'.heap.size ∧ ∀ (k : Nat) (cur : Array Value) (t : TypeId) (fr : Nat × Nat), w.heap[k]? = some (Obj.cells cur t fr) → t ≠ 5 → w'.heap[k]? = some (Obj.cells cur t fr)
theorem KeepT.refl (w : World) : KeepT w w := ⟨Nat.le_refl _, fun _ _ _ _ h _ => h⟩
theorem KeepT.trans {w w1 w2 : World} (h : KeepT w w1) (k : KeepT w1 w2) : KeepT w w2 := ⟨Nat.le_trans h.1 k.1, fun i cur t fr hi ht => k.2 i cur t fr (h.2 i cur t fr hi ht) ht⟩
theorem KeepT.below {w w' : World} (h : Below w.heap.size w w') : KeepT w w' := ⟨h.size, fun k cur t fr hk _ => by rw [h.block k (heap_lt hk)]; exact hk⟩
theorem KeepT.grown {w w' : World} {B n : Nat} {v : Value} {xs : List Value} (ho : w.ownsRow B 5 1 v n xs) (hg : w.grownBy w' v.ownBlock) : KeepT w w' := by
 refine ⟨hg.size, fun k cur t fr hk ht => ?_⟩
 rw [hg.block k (heap_lt hk) ?_]
 ·
  exact hk
 ·
  intro e
  rcases ho.2 with ⟨rfl, _⟩ | ⟨g', cap', cur', rfl, hg', hh, _⟩
  ·
   cases e
  ·
   simp only [Value.ownBlock, Option.some.injEq] at e
   subst e
   rw [hk] at hh
   simp only [Option.some.injEq, Obj.cells.injEq] at hh
   exact ht hh.2.1
def Byt (xs : List Int) : Prop := ∀ x ∈ xs, 0 ≤ x ∧ x < 256
end Go.Proofs.YtchmdfjmleoajaaGreat
namespace Go.Proofs.YtchmdfjmleoajaaGreat
open Go.RowKit
end Go.Proofs.YtchmdfjmleoajaaGreat
namespace Go.Proofs.YtchmdfjmleoajaaGreat
open Go.RowKit
def ten (i : Nat) : Nat := 10 ^ (19 * 2 ^ i)
structure TensAt (B : Nat) (w : World) (v : Value) (m L : Nat) : Prop where
 row : ∃ xs : List Value, w.ownsRow B 26 1 v m xs ∧ ∀ i, i < m → ∃ o l c, xs[i]? = some (.slice o l c) ∧ Own B w .u64 77 o l c (mag (ten i)) ∧ l ≤ L
theorem TensAt.later {B m L : Nat} {w w' : World} {v : Value} (h : TensAt B w v m L) (hb : Below w.heap.size w w') : TensAt B w' v m L := by
 obtain ⟨xs, ho, hx⟩ := h.row
 exact ⟨xs, owns_later ho hb, fun i hi => by obtain ⟨o, l, c, h1, h2, h3⟩ := hx i hi; exact ⟨o, l, c, h1, h2.later hb, h3⟩⟩
end Go.Proofs.YtchmdfjmleoajaaGreat
namespace Go.Proofs.YtchmdfjmleoajaaGreat
open Go.RowKit
theorem own_keep {B : Nat} {w w' : World} {k : IntKind} {t : TypeId} {ao : Option Addr} {len cap : Nat} {zs : List Int} (h : Own B w k t ao len cap zs) (hk : KeepT w w') (ht : t ≠ 5) : Own B w' k t ao len cap zs := by
 rcases h with h | ⟨g, off, cur, h1, h2, h3, h4⟩
 ·
  exact Or.inl h
 ·
  exact Or.inr ⟨g, off, cur, h1, h2, hk.2 _ _ _ _ h3 ht, h4⟩
theorem TensAt.keep {B m L : Nat} {w w' : World} {v : Value} (h : TensAt B w v m L) (hk : KeepT w w') : TensAt B w' v m L := by
 obtain ⟨xs, ho, hx⟩ := h.row
 refine ⟨xs, ⟨ho.1, ?_⟩, fun i hi => ?_⟩
 ·
  rcases ho.2 with hv | ⟨g, cap, cur, hv, hg, hh, hrest⟩
  ·
   exact Or.inl hv
  ·
   exact Or.inr ⟨g, cap, cur, hv, hg, hk.2 _ _ _ _ hh (by decide), hrest⟩
 ·
  obtain ⟨o, l, c, h1, h2, h3⟩ := hx i hi
  exact ⟨o, l, c, h1, own_keep h2 hk (by decide), h3⟩
theorem TensAt.take {B m k L cap : Nat} {w : World} {o : Option Addr} (h : TensAt B w (.slice o m cap) m L) (hk : k ≤ m) : TensAt B w (.slice o k cap) k L := by
 obtain ⟨xs, ho, hx⟩ := h.row
 refine ⟨xs.take k, ⟨by rw [List.length_take, ho.1]; omega, ?_⟩, fun i hi => ?_⟩
 ·
  rcases ho.2 with ⟨hv, h0⟩ | ⟨g, cap', cur, hv, hg, hh, hc1, hc2, hs, ht⟩
  ·
   cases hv; exact Or.inl ⟨by rw [show k = 0 by omega], by omega⟩
  ·
   cases hv
   refine Or.inr ⟨g, cap, cur, rfl, hg, hh, by omega, hc2, hs, ?_⟩
   rw [← ht, List.take_take]; congr 1; omega
 ·
  obtain ⟨o', l, c, h1, h2, h3⟩ := hx i (by omega)
  exact ⟨o', l, c, by rw [List.getElem?_take, if_pos hi]; exact h1, h2, h3⟩
theorem TensAt.at {B m L cap k : Nat} {w : World} {o : Option Addr} (h : TensAt B w (.slice o m cap) m L) (hk : k < m) : ∃ g po lp cp, o = some ⟨g, 0, none⟩ ∧ w.cell? ⟨g, k, none⟩ = some (.slice po lp cp) ∧ RowAt w .u64 po lp cp (mag (ten k)) ∧ lp ≤ L ∧ m ≤ cap ∧ cap ≤ 9223372036854775807 := by
 obtain ⟨xs, ho, hx⟩ := h.row
 obtain ⟨po, lp, cp, h1, h2, h3⟩ := hx k hk
 rcases ho.2 with ⟨hv, h0⟩ | ⟨g, cap', cur, hv, hg, hh, hc1, hc2, hs, ht⟩
 ·
  omega
 ·
  cases hv
  refine ⟨g, po, lp, cp, rfl, ?_, h2.row, h3, hc1, hc2⟩
  rw [← ht, Nat.mul_one, List.getElem?_take, if_pos hk] at h1
  simp only [World.cell?, hh]
  simpa using h1
end Go.Proofs.YtchmdfjmleoajaaGreat
namespace Go.Proofs.YtchmdfjmleoajaaGreat
open Go.RowKit
structure ReadSt (d : ByteArray) (sz k j M W : Nat) : Prop where
 dig : ∀ i, i < k → 48 ≤ byteAt d i ∧ byteAt d i ≤ 57
 top : 0 < k → byteAt d 0 = 48 → sz ≤ 1
 jl : j ≤ 18
 wl : W < 10 ^ j
 eq : M * 10 ^ j + W = decVal d k
 last : k = d.size → j = 0
theorem ReadSt.len {d : ByteArray} {sz k j M W : Nat} (h : ReadSt d sz k j M W) (hk : k ≤ 1024) : (mag M).length ≤ 1024 := by
 have h1 : decVal d k < 10 ^ k := by
  have : ∀ i, i ≤ k → decVal d i < 10 ^ i := by
   intro i
   induction i with
   | zero => intro _; simp [decVal]
   | succ i ih =>
    intro hi
    have h2 := ih (by omega)
    have h3 := h.dig i (by omega)
    rw [decVal, Nat.pow_succ]; omega
  exact this k (Nat.le_refl _)
 have h2 : 10 ^ k ≤ 2 ^ (64 * k) := by rw [Nat.pow_mul]; exact Nat.pow_le_pow_left (by decide) _
 have h3 : M ≤ decVal d k := by
  rw [← h.eq]
  exact Nat.le_trans (Nat.le_mul_of_pos_right _ (Nat.pow_pos (by decide))) (Nat.le_add_right _ _)
 exact Nat.le_trans (two_len (l := 64 * k) (Nat.lt_of_le_of_lt h3 (Nat.lt_of_lt_of_le h1 h2)) (Nat.le_refl _)) hk
end Go.Proofs.YtchmdfjmleoajaaGreat
namespace Go.Proofs.YtchmdfjmleoajaaGreat
open Go.RowKit
end Go.Proofs.YtchmdfjmleoajaaGreat
namespace Go.Proofs.YtchmdfjmleoajaaGreat
open Go.RowKit
end Go.Proofs.YtchmdfjmleoajaaGreat
namespace Go.Proofs.YtchmdfjmleoajaaGreat
open Go.RowKit
end Go.Proofs.YtchmdfjmleoajaaGreat
namespace Go.Proofs.YtchmdfjmleoajaaGreat
open Go.RowKit
end Go.Proofs.YtchmdfjmleoajaaGreat
namespace Go.Proofs.YtchmdfjmleoajaaGreat
open Go.RowKit
theorem Byt.left {xs ys : List Int} (h : Byt (xs ++ ys)) : Byt xs := fun x hx => h x (List.mem_append_left _ hx)
end Go.Proofs.YtchmdfjmleoajaaGreat
namespace Go.Proofs.YtchmdfjmleoajaaGreat
open Go.RowKit
structure ROne1 (w W : World) (na : Bool) (ao po : Option Addr) (la ca lp cp : Nat) : Prop where
 eq : W = w.alloc (.cells #[.bool na, .slice ao la ca, .slice po lp cp] 44)
 below : Below w.heap.size w W
 size : W.heap.size = w.heap.size + 1
 a : Boxed3 W w.heap.size na ao la ca po lp cp
theorem ROne1.mk' (w : World) (na : Bool) (ao po : Option Addr) (la ca lp cp : Nat) : ∃ W, ROne1 w W na ao po la ca lp cp :=
 ⟨_, rfl, (Below.refl _ _).alloc (Nat.le_refl _) _, by simp, ⟨by simp [go_sem], by simp [go_sem], by simp [go_sem]⟩⟩
structure ROne2 (w W : World) (na : Bool) (ao po : Option Addr) (la ca lp cp : Nat) : Prop where
 eq : W = (w.alloc (.cells #[.bool na, .slice ao la ca, .slice po lp cp] 44)).alloc (.cells #[.bool false, .slice none 0 0, .slice none 0 0] 44)
 below : Below w.heap.size w W
 size : W.heap.size = w.heap.size + 2
 a : Boxed3 W w.heap.size na ao la ca po lp cp
 r : Fresh3 W (w.heap.size + 1)
theorem ROne2.mk' (w : World) (na : Bool) (ao po : Option Addr) (la ca lp cp : Nat) : ∃ W, ROne2 w W na ao po la ca lp cp :=
 ⟨_, rfl, ((Below.refl _ _).alloc (Nat.le_refl _) _).alloc (by simp) _, by simp, ⟨by simp [go_sem], by simp [go_sem], by simp [go_sem]⟩, ⟨fun j => by simp [go_sem], by simp [go_sem], by simp [go_sem], by simp [go_sem]⟩⟩
structure RTwo2 (w W : World) (na nb : Bool) (ao po bo qo : Option Addr) (la ca lp cp lb cb lq cq : Nat) : Prop where
 eq : W = (w.alloc (.cells #[.bool na, .slice ao la ca, .slice po lp cp] 44)).alloc (.cells #[.bool nb, .slice bo lb cb, .slice qo lq cq] 44)
 below : Below w.heap.size w W
 size : W.heap.size = w.heap.size + 2
 a : Boxed3 W w.heap.size na ao la ca po lp cp
 b : Boxed3 W (w.heap.size + 1) nb bo lb cb qo lq cq
theorem RTwo2.mk' (w : World) (na nb : Bool) (ao po bo qo : Option Addr) (la ca lp cp lb cb lq cq : Nat) : ∃ W, RTwo2 w W na nb ao po bo qo la ca lp cp lb cb lq cq :=
 ⟨_, rfl, ((Below.refl _ _).alloc (Nat.le_refl _) _).alloc (by simp) _, by simp, ⟨by simp [go_sem], by simp [go_sem], by simp [go_sem]⟩, ⟨by simp [go_sem], by simp [go_sem], by simp [go_sem]⟩⟩
theorem RatAt.pos {w : World} {neg : Bool} {ao bo : Option Addr} {l c lb cb : Nat} {r : Rat} (h : RatAt w neg ao l c bo lb cb r) : 0 < lb := by
 rw [h.den.hlen]; exact mag_len_pos.2 r.den_pos
theorem eqrat_same (na nb : Bool) (ao po bo qo : Option Addr) (la ca lp cp lb cb lq cq : Nat) (a : Rat) (w : World) (hx : RatAt w na ao la ca po lp cp a) (hy : RatAt w nb bo lb cb qo lq cq a) (hl : la ≤ 1073741824) (hl' : lp ≤ 1073741824) :
  Calls Tryz.prog 15 #[.agg #[.bool na, .slice ao la ca, .slice po lp cp], .agg #[.bool nb, .slice bo lb cb, .slice qo lq cq]] w fun e w' => e = .returned (.bool true) ∧ Below w.heap.size w w' := by
 obtain ⟨W, hW⟩ := RTwo2.mk' w na nb ao po bo qo la ca lp cp lb cb lq cq
 have hsz := hW.size
 have HX : Hid (RatAt W na ao la ca po lp cp a ∧ RatAt W nb bo lb cb qo lq cq a) := ⟨hx.later hW.below, hy.later hW.below⟩
 have hcon : ∀ X, Below W.heap.size W X → Calls Tryz.prog 37 #[.slice po lp cp, .slice qo lq cq] X fun e w' => e = .returned (.bool true) ∧ Below X.heap.size X w' := fun X h => (eqwords_any po qo lp cp lq cq (mag a.den) (mag a.den) X (HX.out.1.den.later h) (HX.out.2.den.later h) (by omega)).mono fun e w' k => by rw [decide_eq_true rfl] at k; exact k
 clear hx hy
 go_enter Tryz.func15, Tryz.ntmps15
 go_wp2_with (first
  | (go_at_call 36; rw [← hW.eq]; refine (eqint_at na nb ao bo la ca lb cb a.num a.num _ HX.out.1.num HX.out.2.num (by omega) true (decide_eq_true rfl)).mono ?_; rintro e w1 ⟨rfl, hb1⟩; obtain ⟨p0, p1, p2⟩ := hW.a.later hb1 (by omega); obtain ⟨q0, q1, q2⟩ := hW.b.later hb1 (by omega))
  | (go_at_call 37; refine (hcon _ hb1).mono ?_; rintro e w2 ⟨rfl, hb2⟩))
 go_ret
 exact ⟨rfl, bnext hW.below (bnext hb1 hb2)⟩
end Go.Proofs.YtchmdfjmleoajaaGreat
namespace Go.Proofs.YtchmdfjmleoajaaGreat
open Go.RowKit
theorem row_kept3 {w : World} {p : Option Addr} {m k r : Nat} {zs : List Int} {x y z : Value} {n9 : Bool} {o9 p9 : Option Addr} {l9 c9 m9 d9 : Nat} (hr : RowAt w .u64 p m k zs) (hf : Boxed3 w r n9 o9 l9 c9 p9 m9 d9) : RowAt (((w.setCell ⟨r, 0, none⟩ x).setCell ⟨r, 1, none⟩ y).setCell ⟨r, 2, none⟩ z) .u64 p m k zs := by
 obtain ⟨f0, f1, f2⟩ := hf
 refine ⟨hr.hlen, hr.hcap, hr.hnil, ?_⟩
 rcases hr.hat with h0 | ⟨b, off, h1, hlt, h2⟩
 ·
  exact Or.inl h0
 ·
  refine Or.inr ⟨b, off, h1, by simpa using hlt, fun t ht => ?_⟩
  have h3 := h2 t ht
  by_cases e : b = r
  ·
   subst e
   have n0 : off + t ≠ 0 := fun e => by rw [e] at h3; rw [h3] at f0; cases f0
   have n1 : off + t ≠ 1 := fun e => by rw [e] at h3; rw [h3] at f1; cases f1
   have n2 : off + t ≠ 2 := fun e => by rw [e] at h3; rw [h3] at f2; cases f2
   rw [setCell_ne (fun e => n2 e.2), setCell_ne (fun e => n1 e.2), setCell_ne (fun e => n0 e.2)]; exact h3
  ·
   rw [cell_off e, cell_off e, cell_off e]; exact h3
theorem int_kept3 {w : World} {n : Bool} {p : Option Addr} {m k r : Nat} {v : Int} {x y z : Value} {n9 : Bool} {o9 p9 : Option Addr} {l9 c9 m9 d9 : Nat} (h : IntAt w n p m k v) (hf : Boxed3 w r n9 o9 l9 c9 p9 m9 d9) : IntAt (((w.setCell ⟨r, 0, none⟩ x).setCell ⟨r, 1, none⟩ y).setCell ⟨r, 2, none⟩ z) n p m k v := ⟨h.sg, row_kept3 h.row hf⟩
theorem rat_kept {w : World} {neg : Bool} {ao bo : Option Addr} {l c lb cb r : Nat} {a : Rat} {x y z : Value} {n9 : Bool} {o9 p9 : Option Addr} {l9 c9 m9 d9 : Nat} (h : RatAt w neg ao l c bo lb cb a) (hf : Boxed3 w r n9 o9 l9 c9 p9 m9 d9) : RatAt (((w.setCell ⟨r, 0, none⟩ x).setCell ⟨r, 1, none⟩ y).setCell ⟨r, 2, none⟩ z) neg ao l c bo lb cb a :=
 ⟨int_kept3 h.num hf, row_kept3 h.den hf⟩
structure R1 (w W : World) : Prop where
 eq : W = w.alloc (.cells #[.bool false, .slice none 0 0, .slice none 0 0] 44)
 below : Below w.heap.size w W
 size : W.heap.size = w.heap.size + 1
 r : Fresh3 W w.heap.size
theorem R1.mk' (w : World) : ∃ W, R1 w W := ⟨_, rfl, (Below.refl _ _).alloc (Nat.le_refl _) _, by simp, ⟨fun j => by simp [go_sem], by simp [go_sem], by simp [go_sem], by simp [go_sem]⟩⟩
end Go.Proofs.YtchmdfjmleoajaaGreat
namespace Go.Proofs.YtchmdfjmleoajaaGreat
open Go.RowKit
def SomeR (w w' : World) (e : Ending) (r : Rat) : Prop := ∃ neg ao l c bo lb cb, e = .returned (.agg #[.bool neg, .slice ao l c, .slice bo lb cb]) ∧ RatAt w' neg ao l c bo lb cb r ∧ Below w.heap.size w w'
structure IR2 (w W : World) (na : Bool) (ao : Option Addr) (la ca : Nat) : Prop where
 eq : W = (w.alloc (.cells #[.bool na, .slice ao la ca] 28)).alloc (.cells #[.bool false, .slice none 0 0, .slice none 0 0] 44)
 below : Below w.heap.size w W
 size : W.heap.size = w.heap.size + 2
 a : Boxed W w.heap.size na ao la ca
 r : Fresh3 W (w.heap.size + 1)
theorem IR2.mk' (w : World) (na : Bool) (ao : Option Addr) (la ca : Nat) : ∃ W, IR2 w W na ao la ca :=
 ⟨_, rfl, ((Below.refl _ _).alloc (Nat.le_refl _) _).alloc (by simp) _, by simp, ⟨by simp [go_sem], by simp [go_sem]⟩, ⟨fun j => by simp [go_sem], by simp [go_sem], by simp [go_sem], by simp [go_sem]⟩⟩
theorem qfrom_any (na : Bool) (ao : Option Addr) (la ca : Nat) (zs : List Int) (w : World) (hx : RowAt w .u64 ao la ca zs) :
  Calls Tryz.prog 18 #[.agg #[.bool na, .slice ao la ca]] w fun e w' => ∃ bo lb cb, e = .returned (.agg #[.bool na, .slice ao la ca, .slice bo lb cb]) ∧ RowAt w' .u64 ao la ca zs ∧ Own w.heap.size w' .u64 77 bo lb cb (mag 1) ∧ Below w.heap.size w w' := by
 obtain ⟨W, hT⟩ := IR2.mk' w na ao la ca
 have hsz := hT.size
 have KW : Hid (∀ w' : World, Below W.heap.size W w' → w'.cell? ⟨w.heap.size, 0, none⟩ = some (.bool na) ∧ w'.cell? ⟨w.heap.size, 1, none⟩ = some (.slice ao la ca)) := fun w' h => ⟨(h.cell (p := ⟨w.heap.size, 0, none⟩) (by show w.heap.size < _; omega)).trans hT.a.1, (h.cell (p := ⟨w.heap.size, 1, none⟩) (by show w.heap.size < _; omega)).trans hT.a.2⟩
 have KS : Hid (∀ X : World, Below W.heap.size W X → ∀ x y z, (fun w' : World => w'.cell? ⟨w.heap.size, 0, none⟩ = some (.bool na) ∧ w'.cell? ⟨w.heap.size, 1, none⟩ = some (.slice ao la ca)) (((X.setCell ⟨w.heap.size + 1, 0, none⟩ x).setCell ⟨w.heap.size + 1, 1, none⟩ y).setCell ⟨w.heap.size + 1, 2, none⟩ z)) := fun X h x y z => by
  obtain ⟨h1, h2⟩ := KW.out X h
  (try dsimp only)
  rw [cell_off (by omega), cell_off (by omega), cell_off (by omega), cell_off (by omega), cell_off (by omega), cell_off (by omega)]
  exact ⟨h1, h2⟩
 have HF : Hid (Fresh3 W (w.heap.size + 1) ∧ Below w.heap.size w W ∧ RowAt w .u64 ao la ca zs) := ⟨hT.r, hT.below, hx⟩
 clear hx
 go_enter Tryz.func18, Tryz.ntmps18
 go_upto_region 1 with fail
 rw [← hT.eq]
 clear hT
 have hzU : W.heap.size ≤ W.drew.heap.size := Nat.le_refl _
 have S0 : Step8 0 := ⟨trivial⟩
 go_region_held3 (fun w' => (w'.cell? ⟨w.heap.size, 0, none⟩ = some (.bool na) ∧ w'.cell? ⟨w.heap.size, 1, none⟩ = some (.slice ao la ca)))
  (with_reducible (first | exact KS.out _ hbF1 _ _ _ | exact KW.out _ (Below.refl _ _).drew | exact KW.out _ (by assumption) | (refine KW.out _ ?_; (repeat (first | refine below_alloc ?_ (Nat.le_refl _) | refine Below.drew ?_ | refine below_set ?_ (by omega))); (first | exact hbF1 | exact Below.refl _ _))))
  (first
   | (have _t := S0; go_at_call 44; refine with_held (S := fun w9 => Below W.heap.size W w9) (by show Below _ _ _; with_reducible ((repeat (first | refine below_alloc ?_ (Nat.le_refl _) | refine Below.drew ?_ | refine below_set ?_ (by omega))); (first | exact hbF1 | exact Below.refl _ _))) (fun hS => ?_); refine (nof_at 1 1 _ rfl (by decide)).mono ?_; rintro e f1 ⟨o1, l1, c1, rfl, ho, hb⟩; have H1 : Hid (Own W.heap.size f1 .u64 77 o1 l1 c1 (mag 1) ∧ Below W.heap.size W f1) := ⟨ho.mono hS.size, bnext hS hb⟩; clear ho; obtain ⟨k5, k2, k3, k4⟩ := HF.out.1.later (bnext hS hb) (by omega); have hbF1 : Below W.heap.size W f1 := bnext hS hb; have hzF1 := hbF1.size; clear hS hb S0; skip))
 all_goals go_wp2
 have hs1 := H1.out.2.size
 exact bodyPost_ret (v := .agg #[.bool na, .slice ao la ca, .slice o1 l1 c1]) (by simp [results, Tryz.results18, go_sem, k2, k3, k4]) rfl
  ⟨_, _, _, rfl, HF.out.2.2.later (below_store3 (bnext HF.out.2.1 H1.out.2) (by omega) _ _ _), (H1.out.1.store3 (by omega) _ _ _).mono (by omega), below_store3 (bnext HF.out.2.1 H1.out.2) (by omega) _ _ _⟩
end Go.Proofs.YtchmdfjmleoajaaGreat
