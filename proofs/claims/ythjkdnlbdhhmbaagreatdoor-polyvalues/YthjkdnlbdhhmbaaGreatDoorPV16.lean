/-
  A pack of walks and facts: JB, RA, TA0.
-/
import Derived.Test.YthjkdnlbdhhmbaaGreatDoorPV03
import Derived.Test.YthjkdnlbdhhmbaaGreatDoorPV15
set_option maxRecDepth 100000
set_option maxHeartbeats 40000000
set_option linter.unusedVariables false
set_option linter.unusedSimpArgs false
namespace Go.Proofs.YthjkdnlbdhhmbaaGreatDoor
open Go.RowKit
def lim (a : Int) : Nat := (mag a.natAbs).length
theorem lim_zero : lim 0 = 0 := rfl
theorem lim_add (a b : Int) : lim (a + b) ≤ lim a + lim b + 1 := add_len a b
theorem lim_mul (a b : Int) : lim (a * b) ≤ lim a + lim b := mul_len a b
def Lim (L : Nat) (p : List Int) : Prop := ∀ t, lim (dig p t) ≤ L
theorem Lim.mono {L M : Nat} {p : List Int} (h : Lim L p) (hm : L ≤ M) : Lim M p := fun t => Nat.le_trans (h t) hm
def Lead (p : List Int) : Prop := 0 < p.length → dig p (p.length - 1) ≠ 0
theorem mul_lead {p s : List Int} (hp : Lead p) (hs : Lead s) (h1 : 0 < p.length) (h2 : 0 < s.length) : Lead (mulL p s) := by
 intro _
 rw [mulL_len _ _ h2, show p.length + s.length - 1 - 1 = p.length + s.length - 2 by omega, mulL_lead _ _ h1 h2]
 exact Int.mul_ne_zero (hp h1) (hs h2)
theorem drop_lim {K i : Nat} {p : List Int} (h : Lim K p) : Lim K (p.drop i) := fun t => by rw [dig_drop]; exact h _
def RawAt (w : World) (b o : Nat) (n : Bool) (zs : List Int) : Prop := ∃ ao l c, (w.cell? ⟨b, o, none⟩ = some (.bool n) ∧ w.cell? ⟨b, o + 1, none⟩ = some (.slice ao l c)) ∧ RowAt w .u64 ao l c zs ∧ Wd 18446744073709551616 zs
def CoefAt (w : World) (b o : Nat) (v : Int) : Prop := ∃ n ao l c, (w.cell? ⟨b, o, none⟩ = some (.bool n) ∧ w.cell? ⟨b, o + 1, none⟩ = some (.slice ao l c)) ∧ IntAt w n ao l c v
theorem CoefAt.lt {w : World} {b o : Nat} {v : Int} (h : CoefAt w b o v) : b < w.heap.size := by
 obtain ⟨n, ao, l, c, ⟨h0, _⟩, _⟩ := h
 exact cell_lt h0
theorem RawAt.lt {w : World} {b o : Nat} {n : Bool} {zs : List Int} (h : RawAt w b o n zs) : b < w.heap.size := by
 obtain ⟨ao, l, c, ⟨h0, _⟩, _⟩ := h
 exact cell_lt h0
theorem CoefAt.later {w w' : World} {b o : Nat} {v : Int} (h : CoefAt w b o v) (hb : Below w.heap.size w w') : CoefAt w' b o v := by
 have hlt := h.lt
 obtain ⟨n, ao, l, c, ⟨h0, h1⟩, hi⟩ := h
 exact ⟨n, ao, l, c, ⟨(hb.cell (p := ⟨b, o, none⟩) hlt).trans h0, (hb.cell (p := ⟨b, o + 1, none⟩) hlt).trans h1⟩, hi.later hb⟩
theorem RawAt.later {w w' : World} {b o : Nat} {n : Bool} {zs : List Int} (h : RawAt w b o n zs) (hb : Below w.heap.size w w') : RawAt w' b o n zs := by
 have hlt := h.lt
 obtain ⟨ao, l, c, ⟨h0, h1⟩, hi, hw⟩ := h
 exact ⟨ao, l, c, ⟨(hb.cell (p := ⟨b, o, none⟩) hlt).trans h0, (hb.cell (p := ⟨b, o + 1, none⟩) hlt).trans h1⟩, hi.later hb, hw⟩
structure RawsAt (w : World) (ao : Option Addr) (len cap : Nat) (rs : List (Bool × List Int)) : Prop where
 hlen : len = rs.length
 hcap : len ≤ cap
 hnil : ao = none → cap = 0
 hat : len = 0 ∨ ∃ b off, ao = some ⟨b, off, none⟩ ∧ ∀ t, (ht : t < rs.length) → RawAt w b (off + t * 2) (rs[t]).1 (rs[t]).2
structure PolyAt (w : World) (ao : Option Addr) (len cap : Nat) (p : List Int) : Prop where
 hlen : len = p.length
 hcap : len ≤ cap
 hnil : ao = none → cap = 0
 hat : len = 0 ∨ ∃ b off, ao = some ⟨b, off, none⟩ ∧ ∀ t, t < len → CoefAt w b (off + t * 2) (dig p t)
theorem PolyAt.get {w : World} {ao : Option Addr} {len cap : Nat} {p : List Int} (h : PolyAt w ao len cap p) (hp : 0 < len) :
  ∃ b off, ao = some ⟨b, off, none⟩ ∧ ∀ t, t < len → CoefAt w b (off + t * 2) (dig p t) := by
 rcases h.hat with h | h
 ·
  omega
 ·
  exact h
theorem RawsAt.get {w : World} {ao : Option Addr} {len cap : Nat} {rs : List (Bool × List Int)} (h : RawsAt w ao len cap rs) (hp : 0 < len) :
  ∃ b off, ao = some ⟨b, off, none⟩ ∧ ∀ t, (ht : t < rs.length) → RawAt w b (off + t * 2) (rs[t]).1 (rs[t]).2 := by
 rcases h.hat with h | h
 ·
  omega
 ·
  exact h
theorem PolyAt.later {w w' : World} {ao : Option Addr} {len cap : Nat} {p : List Int} (h : PolyAt w ao len cap p) (hb : Below w.heap.size w w') : PolyAt w' ao len cap p := by
 refine ⟨h.hlen, h.hcap, h.hnil, ?_⟩
 rcases h.hat with h0 | ⟨b, off, h1, h2⟩
 ·
  exact Or.inl h0
 ·
  exact Or.inr ⟨b, off, h1, fun t ht => (h2 t ht).later hb⟩
theorem RawsAt.later {w w' : World} {ao : Option Addr} {len cap : Nat} {rs : List (Bool × List Int)} (h : RawsAt w ao len cap rs) (hb : Below w.heap.size w w') : RawsAt w' ao len cap rs := by
 refine ⟨h.hlen, h.hcap, h.hnil, ?_⟩
 rcases h.hat with h0 | ⟨b, off, h1, h2⟩
 ·
  exact Or.inl h0
 ·
  exact Or.inr ⟨b, off, h1, fun t ht => (h2 t ht).later hb⟩
theorem PolyAt.nilPoly (w : World) : PolyAt w none 0 0 [] := ⟨rfl, Nat.le_refl _, fun _ => rfl, Or.inl rfl⟩
theorem IntAt.lim {w : World} {n : Bool} {ao : Option Addr} {l c : Nat} {v : Int} (h : IntAt w n ao l c v) : l = lim v := h.row.hlen
theorem polys_of_raws {w : World} {ao : Option Addr} {len cap : Nat} {rs : List (Bool × List Int)} (h : RawsAt w ao len cap rs) (hm : ∀ r ∈ rs, mayB r.1 r.2 = true) : ∃ p, PolyAt w ao len cap p := by
 rcases Nat.eq_zero_or_pos len with h0 | h0
 ·
  subst h0
  exact ⟨[], rfl, h.hcap, h.hnil, Or.inl rfl⟩
 ·
  obtain ⟨b, off, h1, h2⟩ := h.get h0
  have hv : ∀ t, ∃ v, (ht : t < rs.length) → CoefAt w b (off + t * 2) v := by
   intro t
   by_cases ht : t < rs.length
   ·
    obtain ⟨ao', l, c, hc, hr, hw⟩ := h2 t ht
    obtain ⟨v, hi, _⟩ := int_of_may hr hw (hm _ (List.getElem_mem ht))
    exact ⟨v, fun _ => ⟨_, ao', l, c, hc, hi⟩⟩
   ·
    exact ⟨0, fun h => absurd h ht⟩
  refine ⟨(List.range len).map fun t => Classical.choose (hv t), by simp, h.hcap, h.hnil, Or.inr ⟨b, off, h1, fun t ht => ?_⟩⟩
  have e : dig ((List.range len).map fun t => Classical.choose (hv t)) t = Classical.choose (hv t) := by
   unfold dig
   rw [List.getD_eq_getElem?_getD, List.getElem?_map, List.getElem?_range ht]; rfl
  rw [e]
  exact Classical.choose_spec (hv t) (by rw [← h.hlen]; exact ht)
structure PBlk (w : World) (g : Nat) (p : List Int) : Prop where
 soft : ∀ j, w.frozen? ⟨g, j, none⟩ = false
 coef : ∀ t, t < p.length → CoefAt w g (t * 2) (dig p t)
theorem PBlk.poly {w : World} {g len : Nat} {p : List Int} (h : PBlk w g p) (hl : len = p.length) : PolyAt w (some ⟨g, 0, none⟩) len len p :=
 ⟨hl, Nat.le_refl _, fun e => (by cases e), Or.inr ⟨g, 0, rfl, fun t ht => by rw [Nat.zero_add]; exact h.coef t (by omega)⟩⟩
theorem IntAt.cellKept {w : World} {n : Bool} {ao : Option Addr} {l c r j : Nat} {v : Int} {u : Value} (h : IntAt w n ao l c v) (hv : w.cell? ⟨r, j, none⟩ = some u) (hn : ∀ z, u ≠ .int .u64 z) (x : Value) : IntAt (w.setCell ⟨r, j, none⟩ x) n ao l c v := by
 refine ⟨h.sg, h.row.hlen, h.row.hcap, h.row.hnil, ?_⟩
 rcases h.row.hat with h0 | ⟨b, off, h1, hlt, h2⟩
 ·
  exact Or.inl h0
 ·
  refine Or.inr ⟨b, off, h1, by simpa [World.setCell] using hlt, fun t ht => ?_⟩
  have hc := h2 t ht
  rw [setCell_ne]
  ·
   exact hc
  ·
   rintro ⟨e1, e2⟩
   simp only at e1 e2
   rw [e1, e2, hv] at hc
   exact hn _ (Option.some.inj hc)
theorem soft_far {w : World} {r j b o : Nat} {v : Value} : (w.setCell ⟨r, j, none⟩ v).frozen? ⟨b, o, none⟩ = w.frozen? ⟨b, o, none⟩ := by simp [go_sem]
theorem rmake_parts {n : Int} {d : Nat} (h : d ≠ 0) : (Rat.normalize n d h).num = n / ((n.natAbs.gcd d : Nat) : Int) ∧ (Rat.normalize n d h).den = d / n.natAbs.gcd d := by
 rw [Rat.normalize_eq]; exact ⟨rfl, rfl⟩
def Sz (r : Rat) (k : Nat) : Prop := (mag r.num.natAbs).length ≤ k ∧ (mag r.den).length ≤ k
theorem Sz.mono {r : Rat} {k m : Nat} (h : Sz r k) (hk : k ≤ m) : Sz r m := ⟨Nat.le_trans h.1 hk, Nat.le_trans h.2 hk⟩
theorem dvd_len {a b : Nat} (h : a ∣ b) (hb : 0 < b) : (mag a).length ≤ (mag b).length := mag_len_mono (Nat.le_of_dvd hb h)
theorem len_zero : (mag 0).length = 0 := by decide
theorem div_len (a b : Nat) : (mag (a / b)).length ≤ (mag a).length := mag_len_mono (Nat.div_le_self a b)
theorem idiv_abs {n : Int} {d : Nat} (h : (d : Int) ∣ n) : (n / (d : Int)).natAbs = n.natAbs / d := by
 rw [Int.natAbs_ediv_of_dvd h]; rfl
theorem idiv_len {n : Int} {d : Nat} (h : (d : Int) ∣ n) : (mag (n / (d : Int)).natAbs).length ≤ (mag n.natAbs).length := by
 rw [idiv_abs h]; exact div_len _ _
theorem gcd_dvd_abs (n : Int) (d : Nat) : ((n.natAbs.gcd d : Nat) : Int) ∣ n := Int.ofNat_dvd_left.2 (Nat.gcd_dvd_left _ _)
theorem Sz.make {n : Int} {d k : Nat} (h : d ≠ 0) (h1 : (mag n.natAbs).length ≤ k) (h2 : (mag d).length ≤ k) : Sz (Rat.normalize n d h) k := by
 obtain ⟨e1, e2⟩ := rmake_parts (n := n) h
 exact ⟨by rw [e1]; exact Nat.le_trans (idiv_len (gcd_dvd_abs _ _)) h1, by rw [e2]; exact Nat.le_trans (div_len _ _) h2⟩
theorem Sz.mul {a b : Rat} {i j : Nat} (ha : Sz a i) (hb : Sz b j) : Sz (a * b) (i + j) := by
 rw [Rat.mul_def]
 refine Sz.make _ ?_ ?_
 ·
  rw [Int.natAbs_mul]; have := mag_len_mul a.num.natAbs b.num.natAbs; have := ha.1; have := hb.1; omega
 ·
  have := mag_len_mul a.den b.den; have := ha.2; have := hb.2; omega
theorem row_int {w : World} {ao : Option Addr} {l c n : Nat} (h : RowAt w .u64 ao l c (mag n)) : IntAt w false ao l c (n : Int) := ⟨by simp [sgB], h⟩
structure RatAt (w : World) (neg : Bool) (ao : Option Addr) (l c : Nat) (bo : Option Addr) (lb cb : Nat) (r : Rat) : Prop where
 num : IntAt w neg ao l c r.num
 den : RowAt w .u64 bo lb cb (mag r.den)
theorem RatAt.later {w w' : World} {neg : Bool} {ao bo : Option Addr} {l c lb cb : Nat} {r : Rat} (h : RatAt w neg ao l c bo lb cb r) (hb : Below w.heap.size w w') : RatAt w' neg ao l c bo lb cb r := ⟨h.num.later hb, h.den.later hb⟩
theorem RatAt.len {w : World} {neg : Bool} {ao bo : Option Addr} {l c lb cb k : Nat} {r : Rat} (h : RatAt w neg ao l c bo lb cb r) (hs : Sz r k) : l ≤ k ∧ lb ≤ k := ⟨by rw [h.num.row.hlen]; exact hs.1, by rw [h.den.hlen]; exact hs.2⟩
def NewRat (w w' : World) (e : Ending) (r : Rat) : Prop :=
 ∃ neg ao l c bo lb cb, e = .returned (.agg #[.bool neg, .slice ao l c, .slice bo lb cb]) ∧ neg = sgB r.num ∧ Own w.heap.size w' .u64 60 ao l c (mag r.num.natAbs) ∧ Own w.heap.size w' .u64 60 bo lb cb (mag r.den) ∧ Parted ao bo ∧ Below w.heap.size w w'
def NewRatErr (w w' : World) (e : Ending) (r : Rat) : Prop :=
 ∃ neg ao l c bo lb cb, e = .returned (.tuple #[.agg #[.bool neg, .slice ao l c, .slice bo lb cb], .int .i64 0]) ∧ neg = sgB r.num ∧ Own w.heap.size w' .u64 60 ao l c (mag r.num.natAbs) ∧ Own w.heap.size w' .u64 60 bo lb cb (mag r.den) ∧ Parted ao bo ∧ Below w.heap.size w w'
def Bx (W : World) (r : Nat) (vs : List Value) : Prop := (∀ j v, vs[j]? = some v → W.cell? ⟨r, j, none⟩ = some v) ∧ (∀ j, W.frozen? ⟨r, j, none⟩ = false)
theorem Bx.later {W w' : World} {B r : Nat} {vs : List Value} (h : Bx W r vs) (hb : Below B W w') (hr : r < B) : Bx w' r vs :=
 ⟨fun j v hj => (hb.cell (p := ⟨r, j, none⟩) hr).trans (h.1 j v hj), fun j => (hb.frozen (p := ⟨r, j, none⟩) hr).trans (h.2 j)⟩
theorem cell_off {w : World} {r j b o : Nat} {v : Value} (h : b ≠ r) : (w.setCell ⟨r, j, none⟩ v).cell? ⟨b, o, none⟩ = w.cell? ⟨b, o, none⟩ := setCell_ne (fun e => h e.1)
theorem frozen_off {w : World} {r j b o : Nat} {v : Value} : (w.setCell ⟨r, j, none⟩ v).frozen? ⟨b, o, none⟩ = w.frozen? ⟨b, o, none⟩ := by simp [go_sem]
def putl (w : World) (r : Nat) : Nat → List Value → World
 | _, [] => w
 | j, v :: vs => putl (w.setCell ⟨r, j, none⟩ v) r (j + 1) vs
theorem putl_off {r b o : Nat} (h : b ≠ r) : ∀ (vs : List Value) (j : Nat) (w : World), (putl w r j vs).cell? ⟨b, o, none⟩ = w.cell? ⟨b, o, none⟩
 | [], _, _ => rfl
 | v :: vs, j, w => (putl_off h vs (j + 1) _).trans (cell_off h)
theorem putl_low {r o : Nat} : ∀ (vs : List Value) (j : Nat) (w : World), o < j → (putl w r j vs).cell? ⟨r, o, none⟩ = w.cell? ⟨r, o, none⟩
 | [], _, _, _ => rfl
 | v :: vs, j, w, h => (putl_low vs (j + 1) _ (by omega)).trans (setCell_ne (fun e => by have := e.2; dsimp only at this; omega))
theorem putl_high {r o : Nat} : ∀ (vs : List Value) (j : Nat) (w : World), j + vs.length ≤ o → (putl w r j vs).cell? ⟨r, o, none⟩ = w.cell? ⟨r, o, none⟩
 | [], _, _, _ => rfl
 | v :: vs, j, w, h => (putl_high vs (j + 1) _ (by simp at h; omega)).trans (setCell_ne (fun e => by have := e.2; dsimp only at this; simp at h; omega))
theorem putl_frozen {r b o : Nat} : ∀ (vs : List Value) (j : Nat) (w : World), (putl w r j vs).frozen? ⟨b, o, none⟩ = w.frozen? ⟨b, o, none⟩
 | [], _, _ => rfl
 | v :: vs, j, w => (putl_frozen vs (j + 1) _).trans frozen_off
theorem putl_size {r : Nat} : ∀ (vs : List Value) (j : Nat) (w : World), (putl w r j vs).heap.size = w.heap.size
 | [], _, _ => rfl
 | v :: vs, j, w => (putl_size vs (j + 1) _).trans (by simp [World.setCell])
theorem putl_below {B r : Nat} {w : World} (hr : B ≤ r) : ∀ (vs : List Value) (j : Nat) (w2 : World), Below B w w2 → Below B w (putl w2 r j vs)
 | [], _, _, h => h
 | v :: vs, j, w2, h => putl_below hr vs (j + 1) _ (h.setCell (p := ⟨r, j, none⟩) hr v)
theorem set_hit {w : World} {r j : Nat} {x v : Value} (h : w.cell? ⟨r, j, none⟩ = some x) : (w.setCell ⟨r, j, none⟩ v).cell? ⟨r, j, none⟩ = some v := by simp [go_sem, h]
theorem putl_at {r : Nat} : ∀ (ws vs : List Value) (j : Nat) (w : World), ws.length = vs.length → (∀ i x, vs[i]? = some x → w.cell? ⟨r, j + i, none⟩ = some x) → ∀ i v, ws[i]? = some v → (putl w r j ws).cell? ⟨r, j + i, none⟩ = some v
 | [], _, _, _, _, _, i, v, h => by simp at h
 | u :: ws, [], _, _, hl, _, _, _, _ => by simp at hl
 | u :: ws, x :: vs, j, w, hl, hc, 0, v, h => by
  have h0 : u = v := by simpa using h
  subst h0
  exact (putl_low ws (j + 1) _ (by omega)).trans (set_hit (hc 0 x rfl))
 | u :: ws, x :: vs, j, w, hl, hc, i + 1, v, h => by
  have h1 := putl_at ws vs (j + 1) (w.setCell ⟨r, j, none⟩ u) (by simpa using hl) (fun i' x' h' => (setCell_ne (fun e => by have := e.2; dsimp only at this; omega)).trans ((by rw [show j + 1 + i' = j + (i' + 1) by omega]; exact hc (i' + 1) x' (by simpa using h')))) i v (by simpa using h)
  rw [show j + 1 + i = j + (i + 1) by omega] at h1
  exact h1
theorem Bx.off {w : World} {r b : Nat} {ws vs : List Value} (h : Bx w b vs) (hb : b ≠ r) (j : Nat) : Bx (putl w r j ws) b vs :=
 ⟨fun i v hi => (putl_off hb ws j w).trans (h.1 i v hi), fun i => (putl_frozen ws j w).trans (h.2 i)⟩
theorem Bx.lt {w : World} {r : Nat} {v : Value} {vs : List Value} (h : Bx w r (v :: vs)) : r < w.heap.size := cell_lt (h.1 0 v rfl)
theorem Bx.new (w : World) (vs : List Value) (t : TypeId) : Bx (w.alloc (.cells vs.toArray t)) w.heap.size vs :=
 ⟨fun j v h => by simpa [go_sem] using h, fun j => by simp [go_sem]⟩
def NoWord (vs : List Value) : Prop := ∀ v ∈ vs, ∀ z : Int, v ≠ .int .u64 z
theorem Bx.row {w : World} {r : Nat} {vs ws : List Value} {p : Option Addr} {m k : Nat} {zs : List Int} (h : Bx w r vs) (hn : NoWord vs) (hl : ws.length = vs.length) (hr : RowAt w .u64 p m k zs) : RowAt (putl w r 0 ws) .u64 p m k zs := by
 refine ⟨hr.hlen, hr.hcap, hr.hnil, ?_⟩
 rcases hr.hat with h0 | ⟨b, off, h1, hlt, h2⟩
 ·
  exact Or.inl h0
 ·
  refine Or.inr ⟨b, off, h1, by rw [putl_size]; exact hlt, fun t ht => ?_⟩
  have h3 := h2 t ht
  by_cases e : b = r
  ·
   subst e
   by_cases h4 : off + t < vs.length
   ·
    have h5 := h.1 (off + t) vs[off + t] (List.getElem?_eq_getElem h4)
    rw [h3] at h5
    exact absurd (Option.some.inj h5).symm (hn _ (List.getElem_mem h4) _)
   ·
    rw [putl_high ws 0 w (by omega)]; exact h3
  ·
   rw [putl_off e ws 0 w]; exact h3
theorem enter1 (w : World) (xs : List Value) (s : TypeId) : ∃ W, W = w.alloc (.cells xs.toArray s) ∧ W.heap.size = w.heap.size + 1 ∧ Below w.heap.size w W ∧ Bx W w.heap.size xs :=
 ⟨_, rfl, by simp, (Below.refl _ _).alloc (Nat.le_refl _) _, Bx.new _ _ _⟩
theorem enter2 (w : World) (xs ys : List Value) (s t : TypeId) : ∃ W, W = (w.alloc (.cells xs.toArray s)).alloc (.cells ys.toArray t) ∧ W.heap.size = w.heap.size + 2 ∧ Below w.heap.size w W ∧ Bx W w.heap.size xs ∧ Bx W (w.heap.size + 1) ys := by
 obtain ⟨V, rfl, hs, hb, ha⟩ := enter1 w xs s
 refine ⟨_, rfl, by simp, hb.alloc hb.size _, ha.later ((Below.refl _ _).alloc (Nat.le_refl _) _) (by omega), ?_⟩
 have h := Bx.new (w.alloc (.cells xs.toArray s)) ys t
 rwa [hs] at h
theorem enter3 (w : World) (xs ys zs : List Value) (s t u : TypeId) : ∃ W, W = ((w.alloc (.cells xs.toArray s)).alloc (.cells ys.toArray t)).alloc (.cells zs.toArray u) ∧ W.heap.size = w.heap.size + 3 ∧ Below w.heap.size w W ∧ Bx W w.heap.size xs ∧ Bx W (w.heap.size + 1) ys ∧ Bx W (w.heap.size + 1 + 1) zs := by
 obtain ⟨V, rfl, hs, hb, ha, hB⟩ := enter2 w xs ys s t
 refine ⟨_, rfl, by simp, hb.alloc hb.size _, ha.later ((Below.refl _ _).alloc (Nat.le_refl _) _) (by omega), hB.later ((Below.refl _ _).alloc (Nat.le_refl _) _) (by omega), ?_⟩
 have h := Bx.new ((w.alloc (.cells xs.toArray s)).alloc (.cells ys.toArray t)) zs u
 rwa [hs] at h
end Go.Proofs.YthjkdnlbdhhmbaaGreatDoor
