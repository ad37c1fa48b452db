/-
  Polynomials: pseudo-division in plain; what lies in memory while it goes on.
-/
import Derived.Test.YthjkdnlbdhhmbaaGreatDoorPQ17
import Derived.Test.YthjkdnlbdhhmbaaGreatDoorPQ18
import Derived.Test.YthjkdnlbdhhmbaaGreatDoorPQ21
import Derived.Test.YthjkdnlbdhhmbaaGreatDoorPQ22
import Derived.Test.YthjkdnlbdhhmbaaGreatDoorPQ23
namespace Go.Proofs.YthjkdnlbdhhmbaaGreatDoor
open Go.RowKit
set_option linter.unusedVariables false
set_option linter.unusedSimpArgs false
/-- a step's inner part, as far as place j -/
def PdSt (r1 b : List Int) (top L : Int) (i j : Nat) (l : List Int) : Prop := l.length = r1.length ∧ ∀ t, t < r1.length → dig l t = if i ≤ t ∧ t < i + j then dig r1 t * L - top * dig b (t - i) else dig r1 t
theorem PdSt.start (r1 b : List Int) (top L : Int) (i : Nat) : PdSt r1 b top L i 0 r1 := ⟨rfl, fun t ht => by rw [if_neg (by omega)]⟩
theorem PdSt.at {r1 b l : List Int} {top L : Int} {i j : Nat} (h : PdSt r1 b top L i j l) (hj : i + j < r1.length) : dig l (i + j) = dig r1 (i + j) := by rw [h.2 _ hj, if_neg (by omega)]
theorem PdSt.step {r1 b l : List Int} {top L : Int} {i j : Nat} (h : PdSt r1 b top L i j l) (hj : i + j < r1.length) : PdSt r1 b top L i (j + 1) (l.set (i + j) (dig l (i + j) * L - top * dig b j)) := by
  refine ⟨by simpa using h.1, fun t ht => ?_⟩
  rw [pdig_set _ _ _ _ (by rw [h.1]; exact ht)]
  by_cases e : t = i + j
  · subst e
    rw [if_pos rfl, if_pos (by omega), h.at hj, show i + j - i = j by omega]
  · rw [if_neg e, h.2 t ht]
    by_cases e2 : i ≤ t ∧ t < i + j
    · rw [if_pos e2, if_pos (by omega)]
    · rw [if_neg e2, if_neg (by omega)]
theorem PdSt.lim {r1 b l : List Int} {top L : Int} {i j M K : Nat} (h : PdSt r1 b top L i j l) (h1 : Lim M r1) (h2 : Lim K b) (h3 : lim top ≤ M) (h4 : lim L ≤ K) : Lim (2 * M + 2 * K + 1) l := by
  intro t
  by_cases ht : t < r1.length
  · rw [h.2 t ht]
    split
    · have a1 := lim_mul (dig r1 t) L
      have a2 := lim_mul top (dig b (t - i))
      have a3 := lim_add (dig r1 t * L) (-(top * dig b (t - i)))
      rw [lim_neg] at a3
      have a4 := h1 t
      have a5 := h2 (t - i)
      rw [Int.sub_eq_add_neg]
      omega
    · have := h1 t; omega
  · rw [dig_past (by rw [h.1]; omega), lim_zero]; omega
/-- sums of powers, from place s on -/
def evS (f : Nat → Int) (x : Int) : Nat → Int
  | 0 => 0
  | n + 1 => evS f x n + f n * x ^ n
theorem evS_congr {f g : Nat → Int} {x : Int} {n : Nat} (h : ∀ t, t < n → f t = g t) : evS f x n = evS g x n := by
  induction n with
  | zero => rfl
  | succ n ih => unfold evS; rw [ih (fun t ht => h t (by omega)), h n (by omega)]
theorem evS_take (l : List Int) (x : Int) (n : Nat) (h : n ≤ l.length) : ev (l.take n) x = evS (dig l) x n := by
  induction n with
  | zero => simp [ev, evS]
  | succ n ih => rw [ev_take l n x (by omega), ih (by omega)]; rfl
theorem evS_ev (l : List Int) (x : Int) : ev l x = evS (dig l) x l.length := by
  have := evS_take l x l.length (Nat.le_refl _); rwa [List.take_length] at this
theorem evS_shift (f : Nat → Int) (x : Int) (n : Nat) : evS f x (n + 1) = f 0 + x * evS (fun t => f (t + 1)) x n := by
  induction n with
  | zero => simp [evS]
  | succ n ih =>
    rw [evS, ih]
    show _ = f 0 + x * (evS (fun t => f (t + 1)) x n + f (n + 1) * x ^ n)
    rw [Int.pow_succ]; grind
theorem evS_lin (f g : Nat → Int) (a c x : Int) (n : Nat) : evS (fun t => f t * a - c * g t) x n = evS f x n * a - c * evS g x n := by
  induction n with
  | zero => simp [evS]
  | succ n ih => simp only [evS]; rw [ih]; grind
/-- what holds while J steps are left: what is below place J is a's own; the identity -/
structure PDv (a b : List Int) (k J : Nat) (r q : List Int) : Prop where
  lr : r.length = a.length
  lq : q.length = k
  low : ∀ t, t < J → dig r t = dig a t
  zer : ∀ t, t < J → dig q t = 0
  idn : ∀ x, dig b (b.length - 1) ^ k * ev a x = ev q x * ev b x + dig b (b.length - 1) ^ k * evS (dig a) x J + dig b (b.length - 1) ^ J * x ^ J * evS (fun t => dig r (J + t)) x (b.length - 1)
theorem evS_split (f : Nat → Int) (x : Int) (m n : Nat) : evS f x (m + n) = evS f x m + x ^ m * evS (fun t => f (m + t)) x n := by
  induction n with
  | zero => simp [evS]
  | succ n ih =>
    rw [← Nat.add_assoc, evS, ih, evS, Int.pow_add]; grind
theorem PDv.start {a b : List Int} {k : Nat} (hb : 0 < b.length) (hk : a.length + 1 = b.length + k) : PDv a b k k a (List.replicate k 0) := by
  refine ⟨rfl, by simp, fun _ _ => rfl, fun t _ => rep_dig _ _, fun x => ?_⟩
  rw [rep_ev, evS_ev a x, show a.length = k + (b.length - 1) by omega, evS_split]
  grind
theorem ev_set0 {q : List Int} {i : Nat} {v x : Int} (hi : i < q.length) (h0 : dig q i = 0) : ev (q.set i v) x = ev q x + v * x ^ i := by
  have := ev_set q i v x hi
  rw [h0, Int.zero_add] at this; exact this
theorem PDv.step {a b r q l : List Int} {k i : Nat} {top L : Int} (h : PDv a b k (i + 1) r q) (hL : L = dig b (b.length - 1)) (hb : 0 < b.length) (hk : a.length + 1 = b.length + k) (hi : i < k)
    (htop : top = dig (r.set i (dig r i * L ^ (k - 1 - i))) (i + (b.length - 1))) (hl : PdSt (r.set i (dig r i * L ^ (k - 1 - i))) b top L i (b.length - 1) l) : PDv a b k i l (q.set i (top * L ^ i)) := by
  have hir : i < r.length := by rw [h.lr]; omega
  obtain ⟨r1, hr1⟩ : ∃ r1, r1 = r.set i (dig r i * L ^ (k - 1 - i)) := ⟨_, rfl⟩
  have hr1l : r1.length = a.length := by rw [hr1, List.length_set]; exact h.lr
  rw [← hr1] at htop hl
  have d0 : dig r1 i = dig a i * L ^ (k - 1 - i) := by rw [hr1, pdig_set _ _ _ _ hir, if_pos rfl, h.low i (by omega)]
  have d1 : ∀ t, t ≠ i → dig r1 t = dig r t := fun t ht => by
    by_cases e : t < r.length
    · rw [hr1, pdig_set _ _ _ _ e, if_neg ht]
    · rw [dig_past (by rw [hr1, List.length_set]; omega), dig_past (by omega)]
  refine ⟨by rw [hl.1]; exact hr1l, by rw [List.length_set]; exact h.lq, fun t ht => ?_, fun t ht => ?_, fun x => ?_⟩
  · rw [hl.2 t (by omega), if_neg (by omega), d1 t (by omega), h.low t (by omega)]
  · rw [pdig_set _ _ _ _ (by rw [h.lq]; omega), if_neg (by omega), h.zer t (by omega)]
  · rw [h.idn x, ev_set0 (by rw [h.lq]; exact hi) (h.zer i (by omega)), ← hL]
    have e1 : evS (fun t => dig l (i + t)) x (b.length - 1) = evS (fun t => dig r1 (i + t) * L - top * dig b t) x (b.length - 1) := evS_congr fun t ht => by
      rw [hl.2 _ (by omega), if_pos (by omega), show i + t - i = t by omega]
    rw [e1, evS_lin (fun t => dig r1 (i + t)) (dig b) L top x]
    have e2 : evS (fun t => dig r1 (i + t)) x (b.length - 1 + 1) = evS (fun t => dig r1 (i + t)) x (b.length - 1) + top * x ^ (b.length - 1) := by rw [evS, htop]
    have e3 : evS (fun t => dig r1 (i + t)) x (b.length - 1 + 1) = dig a i * L ^ (k - 1 - i) + x * evS (fun t => dig r (i + 1 + t)) x (b.length - 1) := by
      rw [evS_shift]
      rw [show i + 0 = i from rfl, d0]
      congr 2
      exact evS_congr fun t ht => by rw [d1 _ (by omega), show i + (t + 1) = i + 1 + t by omega]
    have e4 : ev b x = evS (dig b) x (b.length - 1) + L * x ^ (b.length - 1) := by
      rw [evS_ev b x, show b.length = b.length - 1 + 1 by omega, evS, hL]; congr 2
    have e5 : evS (dig a) x (i + 1) = evS (dig a) x i + dig a i * x ^ i := rfl
    have e6 : L ^ k = L ^ i * L * L ^ (k - 1 - i) := by
      rw [← Int.pow_succ, ← Int.pow_add]; congr 1; omega
    have e7 : evS (fun t => dig r1 (i + t)) x (b.length - 1) = dig a i * L ^ (k - 1 - i) + x * evS (fun t => dig r (i + 1 + t)) x (b.length - 1) - top * x ^ (b.length - 1) := by rw [← e3, e2]; grind
    rw [e7, e5, e4, Int.pow_succ, Int.pow_succ, e6]
    grind
theorem PDv.done {a b r q : List Int} {k : Nat} (h : PDv a b k 0 r q) (hr : b.length - 1 ≤ r.length) (x : Int) : dig b (b.length - 1) ^ k * ev a x = ev q x * ev b x + ev (r.take (b.length - 1)) x := by
  rw [h.idn x, evS_take r x _ hr]
  have : evS (fun t => dig r (0 + t)) x (b.length - 1) = evS (dig r) x (b.length - 1) := evS_congr fun t _ => by rw [Nat.zero_add]
  rw [this]
  simp [evS]
end Go.Proofs.YthjkdnlbdhhmbaaGreatDoor
/-
  Walks: poly's faces over polynomials of up to 50 coefficients. (gen/yi.py)
-/
namespace Go.Proofs.YthjkdnlbdhhmbaaGreatDoor
open Go.RowKit
set_option linter.unusedVariables false
set_option linter.unusedSimpArgs false
/-- a polynomial, not too long -/
structure GP (w : World) (ao : Option Addr) (la ca A : Nat) (p : List Int) : Prop where
  at' : PolyAt w ao la ca p
  lead : Lead p
  lims : Lim A p
  short : la ≤ 50
  small : A ≤ 100000
theorem GP.later {w w' : World} {ao : Option Addr} {la ca A : Nat} {p : List Int} (h : GP w ao la ca A p) (hb : Below w.heap.size w w') : GP w' ao la ca A p := ⟨h.at'.later hb, h.lead, h.lims, h.short, h.small⟩
theorem GP.check {w : World} {ao : Option Addr} {la ca A : Nat} {p : List Int} (h : GP w ao la ca A p) : Calls Tryz.prog 27 #[.slice ao la ca] w fun e w' => e = .returned (.int .i64 0) ∧ Below w.heap.size w w' :=
  pcheck_ok ao la ca p w h.at' (by have := h.short; omega) h.lead (h.lims.mono (by have := h.small; omega))
end Go.Proofs.YthjkdnlbdhhmbaaGreatDoor
/-
  Walks: a quotient by 0; the page's quotient; copies; answers that are written over. (gen/rmore.py)
-/
namespace Go.Proofs.YthjkdnlbdhhmbaaGreatDoor
open Go.RowKit
set_option linter.unusedVariables false
set_option linter.unusedSimpArgs false
/-- of what was there all stays, but for the two slices' own blocks -/
def Stay2 (ao po : Option Addr) (w w' : World) : Prop := ∀ k, k < w.heap.size → (∀ p : Addr, ao = some p → p.block ≠ k) → (∀ p : Addr, po = some p → p.block ≠ k) → w'.heap[k]? = w.heap[k]?
theorem Stay2.of {ao po : Option Addr} {w w1 w2 : World} (h1 : Stay ao w w1) (h2 : Stay po w1 w2) : Stay2 ao po w w2 := fun k hk ha hp => (h2.block k (Nat.lt_of_lt_of_le hk h1.size) hp).trans (h1.block k hk ha)
theorem Stay2.after {ao po : Option Addr} {w w' w2 : World} (hb : Below w.heap.size w w') (h : Stay2 ao po w' w2) : Stay2 ao po w w2 := fun k hk ha hp => (h k (Nat.lt_of_lt_of_le hk hb.size) ha hp).trans (hb.block k hk)
end Go.Proofs.YthjkdnlbdhhmbaaGreatDoor
/-
  Walks: the page's Divide.
-/
namespace Go.Proofs.YthjkdnlbdhhmbaaGreatDoor
open Go.RowKit
set_option linter.unusedVariables false
set_option linter.unusedSimpArgs false
/-- what Divide has in its hands ahead of its answer -/
structure RDiv (w Z : World) (na nb nq : Bool) (ao bo qo : Option Addr) (la ca lb cb lq cq g : Nat) (a b q : Int) : Prop where
  ba : Boxed Z w.heap.size na ao la ca
  bb : Boxed Z (w.heap.size + 1) nb bo lb cb
  bq : Boxed Z g nq qo lq cq
  ia : IntAt Z na ao la ca a
  ib : IntAt Z nb bo lb cb b
  iq : IntAt Z nq qo lq cq q
  f1 : Fresh Z (w.heap.size + 1 + 1)
  f2 : Fresh Z (w.heap.size + 1 + 1 + 1)
  bz : Below w.heap.size w Z
  gz : g < Z.heap.size
  gw : w.heap.size + 4 ≤ g
  fq : ∀ j, Z.frozen? ⟨g, j, none⟩ = false
theorem RDiv.first {w W w2 Z : World} {na nb nq : Bool} {ao bo qo : Option Addr} {la ca lb cb lq cq : Nat} {a b : Int} {m : Nat} {neg : Bool} (hT : Two4 w W na nb ao bo la ca lb cb) (hb : Below W.heap.size W w2) (hx : IntAt W na ao la ca a) (hy : IntAt W nb bo lb cb b) (hm : RowAt w2 .u64 qo lq cq (mag m)) (hn : nq = (neg && decide (0 < lq))) (hZ : Z = w2.alloc (.cells #[.bool nq, .slice qo lq cq] 28)) :
    RDiv w Z na nb nq ao bo qo la ca lb cb lq cq w2.heap.size a b (sgn neg m) := by
  have hA : Below w2.heap.size w2 Z := by rw [hZ]; exact (Below.refl _ _).alloc (Nat.le_refl _) _
  have hWZ := bnext hb hA
  have hs := hT.size
  have h2 := hb.size
  refine ⟨hT.a.later hWZ (by omega), hT.b.later hWZ (by omega), ?_, hx.later hWZ, hy.later hWZ, ⟨?_, ?_⟩, hT.r.later hWZ (by omega), hT.r2.later hWZ (by omega), bnext hT.below hWZ, by rw [hZ]; simp, by omega, fun j => by rw [hZ]; simp [go_sem]⟩
  · rw [hZ]; exact ⟨by simp [go_sem], by simp [go_sem]⟩
  · rw [sgB_sgn, hn, hm.hlen]
  · rw [natAbs_sgn]; exact hm.later hA
theorem RDiv.next {w Z w4 : World} {na nb nq n4 : Bool} {ao bo qo ao4 : Option Addr} {la ca lb cb lq cq l4 c4 g : Nat} {a b q q' : Int} (h : RDiv w Z na nb nq ao bo qo la ca lb cb lq cq g a b q) (hb : Below Z.heap.size Z w4) (hi : IntAt w4 n4 ao4 l4 c4 q') :
    RDiv w ((w4.setCell ⟨g, 0, none⟩ (.bool n4)).setCell ⟨g, 1, none⟩ (.slice ao4 l4 c4)) na nb n4 ao bo ao4 la ca lb cb l4 c4 g a b q' := by
  have h1 := h.gw
  have h2 := h.gz
  have hq := h.bq.later hb (by omega)
  have hs := hb.size
  exact ⟨boxed_far (h.ba.later hb (by omega)) (by omega) _ _, boxed_far (h.bb.later hb (by omega)) (by omega) _ _, boxed_new hq, ⟨h.ia.sg, (h.ia.later hb).row.boxed hq _ _⟩, ⟨h.ib.sg, (h.ib.later hb).row.boxed hq _ _⟩, ⟨hi.sg, hi.row.boxed hq _ _⟩, fresh_far (h.f1.later hb (by omega)) (by omega) _ _, fresh_far (h.f2.later hb (by omega)) (by omega) _ _, below_store (bnext h.bz hb) (by omega) _ _, by simp; omega, h1, fun j => by rw [frozen_far, frozen_far, hb.frozen (p := ⟨g, j, none⟩) h2]; exact h.fq j⟩
theorem RDiv.last {w Z w6 : World} {na nb nq n6 : Bool} {ao bo qo ao6 : Option Addr} {la ca lb cb lq cq l6 c6 g : Nat} {a b q r : Int} (h : RDiv w Z na nb nq ao bo qo la ca lb cb lq cq g a b q) (hb : Below Z.heap.size Z w6) (hi : IntAt w6 n6 ao6 l6 c6 r) (v1 v2 v3 v4 : Value) :
    TwoRef w ((((w6.setCell ⟨w.heap.size + 1 + 1, 0, none⟩ v1).setCell ⟨w.heap.size + 1 + 1, 1, none⟩ v2).setCell ⟨w.heap.size + 1 + 1 + 1, 0, none⟩ v3).setCell ⟨w.heap.size + 1 + 1 + 1, 1, none⟩ v4) (.returned (.tuple #[.agg #[.bool nq, .slice qo lq cq], .agg #[.bool n6, .slice ao6 l6 c6]])) q r := by
  have h1 := h.gw
  have h2 := h.gz
  have f1 := h.f1.later hb (by omega)
  have f2 : ∀ x y, Fresh ((w6.setCell ⟨w.heap.size + 1 + 1, 0, none⟩ x).setCell ⟨w.heap.size + 1 + 1, 1, none⟩ y) (w.heap.size + 1 + 1 + 1) := fun x y => fresh_far (h.f2.later hb (by omega)) (by omega) _ _
  exact ⟨_, _, _, _, _, _, _, _, rfl, ⟨h.iq.sg, ((h.iq.later hb).row.kept f1 _ _).kept (f2 _ _) _ _⟩, ⟨hi.sg, (hi.row.kept f1 _ _).kept (f2 _ _) _ _⟩, below_store (below_store (bnext h.bz hb) (by omega) _ _) (by omega) _ _⟩
end Go.Proofs.YthjkdnlbdhhmbaaGreatDoor
/-
  Walks: what rat's asking calls refuse; Whole, Dyadic, Neg, Abs; the page's. (gen/rasks0.py)
-/
namespace Go.Proofs.YthjkdnlbdhhmbaaGreatDoor
open Go.RowKit
set_option linter.unusedVariables false
set_option linter.unusedSimpArgs false
set_option maxRecDepth 100000 in
set_option maxHeartbeats 4000000 in
theorem qmid_any (na nb : Bool) (ao po bo qo : Option Addr) (la ca lp cp lb cb lq cq : Nat) (a b : Rat) (w : World) (hx : RatAt w na ao la ca po lp cp a) (hy : RatAt w nb bo lb cb qo lq cq b) (ha : Sz a 200) (hb : Sz b 200) :
    Calls Tryz.prog 18 #[.agg #[.bool na, .slice ao la ca, .slice po lp cp], .agg #[.bool nb, .slice bo lb cb, .slice qo lq cq]] w fun e w' => SomeR w w' e ((a + b) * half2) := by
  obtain ⟨W, hT⟩ := RTwo3.mk' w na nb ao po bo qo la ca lp cp lb cb lq cq
  have hsz := hT.size
  have HX : Hid (RatAt W na ao la ca po lp cp a ∧ RatAt W nb bo lb cb qo lq cq b) := ⟨hx.later hT.below, hy.later hT.below⟩
  have HS : Hid (Sz a 1000 ∧ Sz b 1000 ∧ Sz (a + b) 1000) := ⟨ha.mono (by decide), hb.mono (by decide), (ha.add hb).mono (by decide)⟩
  obtain ⟨p0, p1, p2⟩ := hT.a
  obtain ⟨q0, q1, q2⟩ := hT.b
  clear hx hy ha hb
  go_enter Tryz.func18, Tryz.ntmps18
  go_wp2_with (first
    | (go_at_call 35; rw [← hT.eq]; refine (qplus_any na nb ao po bo qo la ca lp cp lb cb lq cq a b _ HX.out.1 HX.out.2 HS.out.1 HS.out.2.1).mono ?_; rintro e w2 ⟨n2, o2, l2, c2, o3, l3, c3, rfl, hr, hb2⟩; have H2 : Hid (RatAt w2 n2 o2 l2 c2 o3 l3 c3 (a + b) ∧ Below W.heap.size W w2) := ⟨hr, hb2⟩; clear hr hb2 p0 p1 p2 q0 q1 q2)
    | (go_at_call 42; refine (rfrom_any 1 _ (by decide) (by decide)).mono ?_; rintro e w3 ⟨n4, o4, l4, c4, rfl, hs, ho, hb3⟩; have H3 : Hid (RatAt w3 n2 o2 l2 c2 o3 l3 c3 (a + b) ∧ IntAt w3 n4 o4 l4 c4 1 ∧ Below W.heap.size W w3) := ⟨H2.out.1.later hb3, ho.int hs, bnext H2.out.2 hb3⟩; clear hs ho hb3)
    | (go_at_call 45; refine (nof_any 2 _ (by decide)).mono ?_; rintro e w4 ⟨o5, l5, c5, rfl, ho, hb4⟩; have H4 : Hid (RatAt w4 n2 o2 l2 c2 o3 l3 c3 (a + b) ∧ RatAt w4 n4 o4 l4 c4 o5 l5 c5 half2 ∧ Below W.heap.size W w4) := ⟨H3.out.1.later hb4, ⟨H3.out.2.1.later hb4, ho.row⟩, bnext H3.out.2.2 hb4⟩; clear ho hb4)
    | (go_at_call 36; refine (qtimes_any n2 n4 o2 o3 o4 o5 l2 c2 l3 c3 l4 c4 l5 c5 (a + b) half2 _ H4.out.1 H4.out.2.1 HS.out.2.2 (sz_half2.mono (by decide))).mono ?_; rintro e w5 ⟨n6, o6, l6, c6, p6, m6, k6, rfl, hr, hb5⟩; have HA : Hid (RatAt w5 n6 o6 l6 c6 p6 m6 k6 ((a + b) * half2) ∧ Below W.heap.size W w5) := ⟨hr, bnext H4.out.2.2 hb5⟩; clear hr hb5; obtain ⟨g5, g2, g3, g4⟩ := hT.r.later HA.out.2 (by omega)))
  exact bodyPost_ret (v := .agg #[.bool n6, .slice o6 l6 c6, .slice p6 m6 k6]) (by simp [results, Tryz.results18, go_sem, g2, g3, g4]) rfl
    ⟨_, _, _, _, _, _, _, rfl, rat_kept HA.out.1 ⟨g2, g3, g4⟩, below_store3 (bnext hT.below HA.out.2) (by omega) _ _ _⟩
set_option maxRecDepth 100000 in
set_option maxHeartbeats 4000000 in
theorem qcmp_any (na nb : Bool) (ao po bo qo : Option Addr) (la ca lp cp lb cb lq cq : Nat) (a b : Rat) (w : World) (hx : RatAt w na ao la ca po lp cp a) (hy : RatAt w nb bo lb cb qo lq cq b) (ha : Sz a 1000) (hb : Sz b 1000) (c : Int) (hc : cmpQ a b = c) :
    Calls Tryz.prog 26 #[.agg #[.bool na, .slice ao la ca, .slice po lp cp], .agg #[.bool nb, .slice bo lb cb, .slice qo lq cq]] w fun e w' => e = .returned (.int .i64 c) ∧ Below w.heap.size w w' := by
  obtain ⟨W, hT⟩ := RTwo2.mk' w na nb ao po bo qo la ca lp cp lb cb lq cq
  have hsz := hT.size
  have HX : Hid (RatAt W na ao la ca po lp cp a ∧ RatAt W nb bo lb cb qo lq cq b ∧ Below w.heap.size w W) := ⟨hx.later hT.below, hy.later hT.below, hT.below⟩
  have hla : la ≤ 1000 := (hx.len ha).1
  have hlp : lp ≤ 1000 := (hx.len ha).2
  have hlb : lb ≤ 1000 := (hy.len hb).1
  have hlq : lq ≤ 1000 := (hy.len hb).2
  have KW : Hid (∀ w' : World, Below W.heap.size W w' → w'.cell? ⟨w.heap.size, 0, none⟩ = some (.bool na) ∧ w'.cell? ⟨w.heap.size, 1, none⟩ = some (.slice ao la ca) ∧ w'.cell? ⟨w.heap.size, 2, none⟩ = some (.slice po lp cp) ∧ w'.cell? ⟨w.heap.size + 1, 0, none⟩ = some (.bool nb) ∧ w'.cell? ⟨w.heap.size + 1, 1, none⟩ = some (.slice bo lb cb) ∧ w'.cell? ⟨w.heap.size + 1, 2, none⟩ = some (.slice qo lq cq)) := fun w' h => ⟨(h.cell (p := ⟨w.heap.size, 0, none⟩) (by show w.heap.size < _; omega)).trans hT.a.1, (h.cell (p := ⟨w.heap.size, 1, none⟩) (by show w.heap.size < _; omega)).trans hT.a.2.1, (h.cell (p := ⟨w.heap.size, 2, none⟩) (by show w.heap.size < _; omega)).trans hT.a.2.2, (h.cell (p := ⟨w.heap.size + 1, 0, none⟩) (by show w.heap.size + 1 < _; omega)).trans hT.b.1, (h.cell (p := ⟨w.heap.size + 1, 1, none⟩) (by show w.heap.size + 1 < _; omega)).trans hT.b.2.1, (h.cell (p := ⟨w.heap.size + 1, 2, none⟩) (by show w.heap.size + 1 < _; omega)).trans hT.b.2.2⟩
  have HC : Hid (cmpI (a.num * (b.den : Int)) (b.num * (a.den : Int)) = c) := hc
  have HL : Hid ((mag (a.num * (b.den : Int)).natAbs).length ≤ 3000 ∧ (mag (b.num * (a.den : Int)).natAbs).length ≤ 3000) := by
    have h2 := mul_len a.num (b.den : Int)
    have h3 := mul_len b.num (a.den : Int)
    rw [Int.natAbs_natCast] at h2 h3
    have := ha.1; have := ha.2; have := hb.1; have := hb.2
    refine ⟨?_, ?_⟩ <;> omega
  clear hx hy ha hb hc
  go_enter Tryz.func26, Tryz.ntmps26
  go_upto_region 1 with fail
  rw [← hT.eq]
  clear hT
  have hzU : W.heap.size ≤ W.drew.heap.size := Nat.le_refl _
  have S0 : Step8 0 := ⟨trivial⟩
  go_region_held3 (fun w' => (w'.cell? ⟨w.heap.size, 0, none⟩ = some (.bool na) ∧ w'.cell? ⟨w.heap.size, 1, none⟩ = some (.slice ao la ca) ∧ w'.cell? ⟨w.heap.size, 2, none⟩ = some (.slice po lp cp) ∧ w'.cell? ⟨w.heap.size + 1, 0, none⟩ = some (.bool nb) ∧ w'.cell? ⟨w.heap.size + 1, 1, none⟩ = some (.slice bo lb cb) ∧ w'.cell? ⟨w.heap.size + 1, 2, none⟩ = some (.slice qo lq cq)))
    (with_reducible (first | exact KW.out _ (Below.refl _ _).drew | exact KW.out _ (by assumption) | (refine KW.out _ ?_; (repeat (first | refine below_alloc ?_ (Nat.le_refl _) | refine Below.drew ?_ | refine below_set ?_ (by omega))); (first | exact hbF5 | exact hbF4 | exact hbF3 | exact hbF2 | exact hbF1 | exact Below.refl _ _))))
    (first
      | (have _t := S0; go_at_call 50; refine with_held (S := fun w9 => Below W.heap.size W w9) (by show Below _ _ _; with_reducible ((repeat (first | refine below_alloc ?_ (Nat.le_refl _) | refine Below.drew ?_ | refine below_set ?_ (by omega))); (first | exact hbF5 | exact hbF4 | exact hbF3 | exact hbF2 | exact hbF1 | exact Below.refl _ _))) (fun hS => ?_); refine (qden_any nb bo qo lb cb lq cq _ (by omega)).mono ?_; rintro e f1 ⟨rfl, hb⟩; skip; have hbF1 : Below W.heap.size W f1 := bnext hS hb; have hzF1 := hbF1.size; clear hS hb S0; have S1 : Step8 1 := ⟨trivial⟩)
      | (have _t := S1; go_at_call 49; refine with_held (S := fun w9 => Below W.heap.size W w9) (by show Below _ _ _; with_reducible ((repeat (first | refine below_alloc ?_ (Nat.le_refl _) | refine Below.drew ?_ | refine below_set ?_ (by omega))); (first | exact hbF5 | exact hbF4 | exact hbF3 | exact hbF2 | exact hbF1 | exact Below.refl _ _))) (fun hS => ?_); refine with_held (S := fun w9 => Below f1.heap.size f1 w9) (by show Below _ _ _; with_reducible ((repeat (refine below_alloc ?_ (Nat.le_refl _))); exact Below.refl _ _)) (fun hS2 => ?_); refine (rtimes_any na false ao qo la ca lq cq a.num (b.den : Int) _ (HX.out.1.num.later hS) (row_int (HX.out.2.1.den.later hS)) (by omega) (by omega)).mono ?_; rintro e f2 ⟨n1, o1, l1, c1, rfl, hs, ho, hb⟩; have H2 : Hid (IntAt f2 n1 o1 l1 c1 (a.num * (b.den : Int))) := ho.int hs; have hl1 : l1 ≤ 3000 := (by rw [ho.row.hlen]; exact HL.out.1); clear hs ho; have hbF2 : Below W.heap.size W f2 := bnext hS hb; have hzF2 := hbF2.size; clear hS hb S1; clear hS2; have S2 : Step8 2 := ⟨trivial⟩)
      | (have _t := S2; go_at_call 50; refine with_held (S := fun w9 => Below W.heap.size W w9) (by show Below _ _ _; with_reducible ((repeat (first | refine below_alloc ?_ (Nat.le_refl _) | refine Below.drew ?_ | refine below_set ?_ (by omega))); (first | exact hbF5 | exact hbF4 | exact hbF3 | exact hbF2 | exact hbF1 | exact Below.refl _ _))) (fun hS => ?_); refine with_held (S := fun w9 => Below f2.heap.size f2 w9) (by show Below _ _ _; with_reducible ((repeat (refine below_alloc ?_ (Nat.le_refl _))); exact Below.refl _ _)) (fun hS2 => ?_); refine (qden_any na ao po la ca lp cp _ (by omega)).mono ?_; rintro e f3 ⟨rfl, hb⟩; have H3 : Hid (IntAt f3 n1 o1 l1 c1 (a.num * (b.den : Int))) := H2.out.later (bnext hS2 hb); have hbF3 : Below W.heap.size W f3 := bnext hS hb; have hzF3 := hbF3.size; clear hS hb S2; clear hS2; have S3 : Step8 3 := ⟨trivial⟩)
      | (have _t := S3; go_at_call 49; refine with_held (S := fun w9 => Below W.heap.size W w9) (by show Below _ _ _; with_reducible ((repeat (first | refine below_alloc ?_ (Nat.le_refl _) | refine Below.drew ?_ | refine below_set ?_ (by omega))); (first | exact hbF5 | exact hbF4 | exact hbF3 | exact hbF2 | exact hbF1 | exact Below.refl _ _))) (fun hS => ?_); refine with_held (S := fun w9 => Below f3.heap.size f3 w9) (by show Below _ _ _; with_reducible ((repeat (refine below_alloc ?_ (Nat.le_refl _))); exact Below.refl _ _)) (fun hS2 => ?_); refine (rtimes_any nb false bo po lb cb lp cp b.num (a.den : Int) _ (HX.out.2.1.num.later hS) (row_int (HX.out.1.den.later hS)) (by omega) (by omega)).mono ?_; rintro e f4 ⟨n2, o2, l2, c2, rfl, hs, ho, hb⟩; have H4 : Hid (IntAt f4 n1 o1 l1 c1 (a.num * (b.den : Int)) ∧ IntAt f4 n2 o2 l2 c2 (b.num * (a.den : Int))) := ⟨H3.out.later (bnext hS2 hb), ho.int hs⟩; have hl2 : l2 ≤ 3000 := (by rw [ho.row.hlen]; exact HL.out.2); clear hs ho; have hbF4 : Below W.heap.size W f4 := bnext hS hb; have hzF4 := hbF4.size; clear hS hb S3; clear hS2; have S4 : Step8 4 := ⟨trivial⟩)
      | (have _t := S4; go_at_call 48; refine with_held (S := fun w9 => Below W.heap.size W w9) (by show Below _ _ _; with_reducible ((repeat (first | refine below_alloc ?_ (Nat.le_refl _) | refine Below.drew ?_ | refine below_set ?_ (by omega))); (first | exact hbF5 | exact hbF4 | exact hbF3 | exact hbF2 | exact hbF1 | exact Below.refl _ _))) (fun hS => ?_); refine with_held (S := fun w9 => Below f4.heap.size f4 w9) (by show Below _ _ _; with_reducible ((repeat (refine below_alloc ?_ (Nat.le_refl _))); exact Below.refl _ _)) (fun hS2 => ?_); refine (rcmp_any n1 n2 o1 o2 l1 c1 l2 c2 _ _ _ (H4.out.1.later hS2) (H4.out.2.later hS2) (by omega) (by omega) c HC.out).mono ?_; rintro e f5 ⟨rfl, hb⟩; skip; have hbF5 : Below W.heap.size W f5 := bnext hS hb; have hzF5 := hbF5.size; clear hS hb S4; clear hS2; skip))
  all_goals go_wp2
  go_ret
  exact ⟨rfl, bnext HX.out.2.2 hbF5⟩
end Go.Proofs.YthjkdnlbdhhmbaaGreatDoor
/-
  Walks: the page's May of intervals; are two the same; what is too long. (gen/span2.py)
-/
namespace Go.Proofs.YthjkdnlbdhhmbaaGreatDoor
open Go.RowKit
set_option linter.unusedVariables false
set_option linter.unusedSimpArgs false
set_option maxRecDepth 100000 in
set_option maxHeartbeats 4000000 in
theorem smay_bad1 (n1 n2 : Bool) (o1 p1 o2 p2 : Option Addr) (l1 c1 m1 k1 l2 c2 m2 k2 : Nat) (x1 d1 : List Int) (w : World) (hx1 : RowAt w .u64 o1 l1 c1 x1) (wx1 : Wd 18446744073709551616 x1) (hd1 : RowAt w .u64 p1 m1 k1 d1) (wd1 : Wd 18446744073709551616 d1) (hl1 : l1 ≤ 4) (hm1 : m1 ≤ 4) (h1 : mayR n1 x1 d1 = false) :
    Calls Tryz.prog 8 #[.agg #[.bool n1, .slice o1 l1 c1, .slice p1 m1 k1, .bool n2, .slice o2 l2 c2, .slice p2 m2 k2]] w fun e w' => e = .returned (.bool false) ∧ Below w.heap.size w w' := by
  obtain ⟨W, hW, hsz, hbW, hA⟩ := enter1 w [.bool n1, .slice o1 l1 c1, .slice p1 m1 k1, .bool n2, .slice o2 l2 c2, .slice p2 m2 k2] 32
  have HX : Hid (RowAt W .u64 o1 l1 c1 x1 ∧ RowAt W .u64 p1 m1 k1 d1) := ⟨hx1.later hbW, hd1.later hbW⟩
  have HM : Hid (mayR n1 x1 d1 = false) := h1
  clear hx1 hd1 h1
  go_enter Tryz.func8, Tryz.ntmps8
  go_wp2_with (go_at_call 7; rw [← hW]; refine (qmay_any n1 o1 p1 l1 c1 m1 k1 x1 d1 _ HX.out.1 wx1 HX.out.2 wd1 (by omega) (by omega) false HM.out).mono ?_; rintro e w1 ⟨rfl, hb1⟩)
  go_ret
  exact ⟨rfl, bnext hbW hb1⟩
set_option maxRecDepth 100000 in
set_option maxHeartbeats 4000000 in
theorem smay_bad2 (n1 n2 : Bool) (o1 p1 o2 p2 : Option Addr) (l1 c1 m1 k1 l2 c2 m2 k2 : Nat) (x1 d1 x2 d2 : List Int) (w : World) (hx1 : RowAt w .u64 o1 l1 c1 x1) (wx1 : Wd 18446744073709551616 x1) (hd1 : RowAt w .u64 p1 m1 k1 d1) (wd1 : Wd 18446744073709551616 d1) (hx2 : RowAt w .u64 o2 l2 c2 x2) (wx2 : Wd 18446744073709551616 x2) (hd2 : RowAt w .u64 p2 m2 k2 d2) (wd2 : Wd 18446744073709551616 d2) (hl1 : l1 ≤ 4) (hm1 : m1 ≤ 4) (hl2 : l2 ≤ 4) (hm2 : m2 ≤ 4) (h1 : mayR n1 x1 d1 = true) (h2 : mayR n2 x2 d2 = false) :
    Calls Tryz.prog 8 #[.agg #[.bool n1, .slice o1 l1 c1, .slice p1 m1 k1, .bool n2, .slice o2 l2 c2, .slice p2 m2 k2]] w fun e w' => e = .returned (.bool false) ∧ Below w.heap.size w w' := by
  obtain ⟨W, hW, hsz, hbW, hA⟩ := enter1 w [.bool n1, .slice o1 l1 c1, .slice p1 m1 k1, .bool n2, .slice o2 l2 c2, .slice p2 m2 k2] 32
  have HX : Hid ((RowAt W .u64 o1 l1 c1 x1 ∧ RowAt W .u64 p1 m1 k1 d1) ∧ (RowAt W .u64 o2 l2 c2 x2 ∧ RowAt W .u64 p2 m2 k2 d2)) := ⟨⟨hx1.later hbW, hd1.later hbW⟩, ⟨hx2.later hbW, hd2.later hbW⟩⟩
  have HM : Hid (mayR n1 x1 d1 = true ∧ mayR n2 x2 d2 = false) := ⟨h1, h2⟩
  clear hx1 hd1 h1 hx2 hd2 h2
  go_enter Tryz.func8, Tryz.ntmps8
  go_wp2_with (first
    | (go_at_call 7; have _t := hb1; refine (qmay_any n2 o2 p2 l2 c2 m2 k2 x2 d2 _ (HX.out.2.1.later hb1) wx2 (HX.out.2.2.later hb1) wd2 (by omega) (by omega) false HM.out.2).mono ?_; rintro e w2 ⟨rfl, hb2⟩)
    | (go_at_call 7; rw [← hW]; refine (qmay_any n1 o1 p1 l1 c1 m1 k1 x1 d1 _ HX.out.1.1 wx1 HX.out.1.2 wd1 (by omega) (by omega) true HM.out.1).mono ?_; rintro e w1 ⟨rfl, hb1⟩; have ub := hA.later hb1 (by omega); have u0 := ub.1 0 _ rfl; have u1 := ub.1 1 _ rfl; have u2 := ub.1 2 _ rfl; have u3 := ub.1 3 _ rfl; have u4 := ub.1 4 _ rfl; have u5 := ub.1 5 _ rfl; clear ub))
  go_ret
  exact ⟨rfl, bnext hbW (bnext hb1 hb2)⟩
set_option maxRecDepth 100000 in
set_option maxHeartbeats 4000000 in
theorem smay_good (n1 n2 : Bool) (o1 p1 o2 p2 : Option Addr) (l1 c1 m1 k1 l2 c2 m2 k2 : Nat) (x1 d1 x2 d2 : List Int) (w : World) (hx1 : RowAt w .u64 o1 l1 c1 x1) (wx1 : Wd 18446744073709551616 x1) (hd1 : RowAt w .u64 p1 m1 k1 d1) (wd1 : Wd 18446744073709551616 d1) (hx2 : RowAt w .u64 o2 l2 c2 x2) (wx2 : Wd 18446744073709551616 x2) (hd2 : RowAt w .u64 p2 m2 k2 d2) (wd2 : Wd 18446744073709551616 d2) (hl1 : l1 ≤ 4) (hm1 : m1 ≤ 4) (hl2 : l2 ≤ 4) (hm2 : m2 ≤ 4) (h1 : mayR n1 x1 d1 = true) (h2 : mayR n2 x2 d2 = true) (a b : Rat) (hx : RatAt w n1 o1 l1 c1 p1 m1 k1 a) (hy : RatAt w n2 o2 l2 c2 p2 m2 k2 b) (ha : Sz a 4) (hb : Sz b 4) (r : Bool) (hr : decide (cmpQ a b ≤ 0) = r) :
    Calls Tryz.prog 8 #[.agg #[.bool n1, .slice o1 l1 c1, .slice p1 m1 k1, .bool n2, .slice o2 l2 c2, .slice p2 m2 k2]] w fun e w' => e = .returned (.bool r) ∧ Below w.heap.size w w' := by
  obtain ⟨W, hW, hsz, hbW, hA⟩ := enter1 w [.bool n1, .slice o1 l1 c1, .slice p1 m1 k1, .bool n2, .slice o2 l2 c2, .slice p2 m2 k2] 32
  have HX : Hid (((RowAt W .u64 o1 l1 c1 x1 ∧ RowAt W .u64 p1 m1 k1 d1) ∧ (RowAt W .u64 o2 l2 c2 x2 ∧ RowAt W .u64 p2 m2 k2 d2)) ∧ RatAt W n1 o1 l1 c1 p1 m1 k1 a ∧ RatAt W n2 o2 l2 c2 p2 m2 k2 b) := ⟨⟨⟨hx1.later hbW, hd1.later hbW⟩, ⟨hx2.later hbW, hd2.later hbW⟩⟩, hx.later hbW, hy.later hbW⟩
  have HM : Hid (mayR n1 x1 d1 = true ∧ mayR n2 x2 d2 = true) := ⟨h1, h2⟩
  obtain ⟨c, hc1⟩ : ∃ c, cmpQ a b = c := ⟨_, rfl⟩
  have HCC : Hid (cmpQ a b = c ∧ Sz a 1000 ∧ Sz b 1000) := ⟨hc1, ha.mono (by decide), hb.mono (by decide)⟩
  rw [hc1] at hr
  have HR : Hid (decide (c ≤ 0) = r) := hr
  clear hx1 hd1 h1 hx2 hd2 h2 hx hy ha hb hc1 hr
  go_enter Tryz.func8, Tryz.ntmps8
  go_wp2_with (first
    | (go_at_call 7; have _t := hb1; refine (qmay_any n2 o2 p2 l2 c2 m2 k2 x2 d2 _ (HX.out.1.2.1.later hb1) wx2 (HX.out.1.2.2.later hb1) wd2 (by omega) (by omega) true HM.out.2).mono ?_; rintro e w2 ⟨rfl, hb2'⟩; have hb2 := bnext hb1 hb2'; clear hb2' u0 u1 u2 u3 u4 u5 hb1; have ub := hA.later hb2 (by omega); have u0 := ub.1 0 _ rfl; have u1 := ub.1 1 _ rfl; have u2 := ub.1 2 _ rfl; have u3 := ub.1 3 _ rfl; have u4 := ub.1 4 _ rfl; have u5 := ub.1 5 _ rfl; clear ub)
    | (go_at_call 7; rw [← hW]; refine (qmay_any n1 o1 p1 l1 c1 m1 k1 x1 d1 _ HX.out.1.1.1 wx1 HX.out.1.1.2 wd1 (by omega) (by omega) true HM.out.1).mono ?_; rintro e w1 ⟨rfl, hb1⟩; have ub := hA.later hb1 (by omega); have u0 := ub.1 0 _ rfl; have u1 := ub.1 1 _ rfl; have u2 := ub.1 2 _ rfl; have u3 := ub.1 3 _ rfl; have u4 := ub.1 4 _ rfl; have u5 := ub.1 5 _ rfl; clear ub)
    | (go_at_call 26; refine (qcmp_any n1 n2 o1 p1 o2 p2 l1 c1 m1 k1 l2 c2 m2 k2 a b _ (HX.out.2.1.later hb2) (HX.out.2.2.later hb2) HCC.out.2.1 HCC.out.2.2 c HCC.out.1).mono ?_; rintro e w3 ⟨rfl, hb3⟩))
  go_ret
  exact ⟨ret_bool HR.out, bnext hbW (bnext hb2 hb3)⟩
theorem RatAt.sz {w : World} {n : Bool} {o p : Option Addr} {l c m k K : Nat} {a : Rat} (h : RatAt w n o l c p m k a) (hl : l ≤ K) (hm : m ≤ K) : Sz a K := ⟨by rw [← h.num.row.hlen]; exact hl, by rw [← h.den.hlen]; exact hm⟩
/-- the page tells whether it is an interval -/
theorem smay_is (n1 n2 : Bool) (o1 p1 o2 p2 : Option Addr) (l1 c1 m1 k1 l2 c2 m2 k2 : Nat) (x1 d1 x2 d2 : List Int) (w : World) (hx1 : RowAt w .u64 o1 l1 c1 x1) (wx1 : Wd 18446744073709551616 x1) (hd1 : RowAt w .u64 p1 m1 k1 d1) (wd1 : Wd 18446744073709551616 d1) (hx2 : RowAt w .u64 o2 l2 c2 x2) (wx2 : Wd 18446744073709551616 x2) (hd2 : RowAt w .u64 p2 m2 k2 d2) (wd2 : Wd 18446744073709551616 d2) (hl1 : l1 ≤ 4) (hm1 : m1 ≤ 4) (hl2 : l2 ≤ 4) (hm2 : m2 ≤ 4) :
    ∃ r : Bool, (∀ X, Below w.heap.size w X → Calls Tryz.prog 8 #[.agg #[.bool n1, .slice o1 l1 c1, .slice p1 m1 k1, .bool n2, .slice o2 l2 c2, .slice p2 m2 k2]] X fun e w' => e = .returned (.bool r) ∧ Below X.heap.size X w') ∧ (r = true → ∃ a b : Rat, RatAt w n1 o1 l1 c1 p1 m1 k1 a ∧ RatAt w n2 o2 l2 c2 p2 m2 k2 b ∧ Sz a 4 ∧ Sz b 4 ∧ cmpQ a b ≤ 0) := by
  cases h1 : mayR n1 x1 d1
  · exact ⟨false, fun X h => smay_bad1 n1 n2 o1 p1 o2 p2 l1 c1 m1 k1 l2 c2 m2 k2 x1 d1 X (hx1.later h) wx1 (hd1.later h) wd1 hl1 hm1 h1, fun e => by cases e⟩
  · cases h2 : mayR n2 x2 d2
    · exact ⟨false, fun X h => smay_bad2 n1 n2 o1 p1 o2 p2 l1 c1 m1 k1 l2 c2 m2 k2 x1 d1 x2 d2 X (hx1.later h) wx1 (hd1.later h) wd1 (hx2.later h) wx2 (hd2.later h) wd2 hl1 hm1 hl2 hm2 h1 h2, fun e => by cases e⟩
    · obtain ⟨a, ha, _⟩ := rat_of_may hx1 wx1 hd1 wd1 h1
      obtain ⟨b, hb, _⟩ := rat_of_may hx2 wx2 hd2 wd2 h2
      exact ⟨decide (cmpQ a b ≤ 0), fun X h => smay_good n1 n2 o1 p1 o2 p2 l1 c1 m1 k1 l2 c2 m2 k2 x1 d1 x2 d2 X (hx1.later h) wx1 (hd1.later h) wd1 (hx2.later h) wx2 (hd2.later h) wd2 hl1 hm1 hl2 hm2 h1 h2 a b (ha.later h) (hb.later h) (ha.sz hl1 hm1) (hb.sz hl2 hm2) _ rfl, fun e => ⟨a, b, ha, hb, ha.sz hl1 hm1, hb.sz hl2 hm2, of_decide_eq_true e⟩⟩
end Go.Proofs.YthjkdnlbdhhmbaaGreatDoor
