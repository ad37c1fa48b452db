/-
  Walks: a step of poly's pseudo-division. (gen/ye.py)
-/
import Derived.Test.YthjkdnlbdhhmbaaGreatDoorPQ09
import Derived.Test.YthjkdnlbdhhmbaaGreatDoorPQ21
import Derived.Test.YthjkdnlbdhhmbaaGreatDoorPQ23
import Derived.Test.YthjkdnlbdhhmbaaGreatDoorPQ25
import Derived.Test.YthjkdnlbdhhmbaaGreatDoorPQ26
import Derived.Deep.DeepCutAuto
import Derived.ProofKit
import Derived.OpenShut
import Derived.Deep.Slices
import Derived.Deep.Strs
namespace Go.Proofs.YthjkdnlbdhhmbaaGreatDoor
open Go.RowKit
set_option linter.unusedVariables false
set_option linter.unusedSimpArgs false
theorem CoefAt.off {w : World} {b o g j : Nat} {v : Int} {u : Value} (h : CoefAt w b o v) (hne : b ≠ g) (e : w.cell? ⟨g, j, none⟩ = some u) (hu : ∀ z, u ≠ .int .u64 z) (x : Value) : CoefAt (w.setCell ⟨g, j, none⟩ x) b o v := by
  obtain ⟨n, ao, l, c, ⟨h0, h1⟩, hi⟩ := h
  exact ⟨n, ao, l, c, ⟨by rw [cell_off hne]; exact h0, by rw [cell_off hne]; exact h1⟩, hi.cellKept e hu x⟩
theorem PolyAt.off {w : World} {ao : Option Addr} {len cap g j : Nat} {p : List Int} {u : Value} (h : PolyAt w ao len cap p) (hne : ∀ a : Addr, ao = some a → a.block ≠ g) (e : w.cell? ⟨g, j, none⟩ = some u) (hu : ∀ z, u ≠ .int .u64 z) (x : Value) : PolyAt (w.setCell ⟨g, j, none⟩ x) ao len cap p := by
  refine ⟨h.hlen, h.hcap, h.hnil, ?_⟩
  rcases h.hat with h0 | ⟨b, o, h1, h2⟩
  · exact Or.inl h0
  · exact Or.inr ⟨b, o, h1, fun t ht => (h2 t ht).off (hne _ h1) e hu x⟩
theorem PBlk.off {w : World} {g g' j : Nat} {p : List Int} {u : Value} (h : PBlk w g p) (hne : g ≠ g') (e : w.cell? ⟨g', j, none⟩ = some u) (hu : ∀ z, u ≠ .int .u64 z) (x : Value) : PBlk (w.setCell ⟨g', j, none⟩ x) g p :=
  ⟨fun i => by rw [soft_far]; exact h.soft i, fun t ht => (h.coef t ht).off hne e hu x⟩
/-- what lies in memory while a pseudo-division goes on -/
structure PS (B : Nat) (w : World) (g gq gd gp : Nat) (bo : Option Addr) (lb cb k : Nat) (b P r q : List Int) : Prop where
  ord : B ≤ gq ∧ gq < gd ∧ gd < g ∧ g < w.heap.size ∧ gp < B
  d0 : w.cell? ⟨gd, 0, none⟩ = some (.slice bo lb cb)
  d1 : w.cell? ⟨gd, 1, none⟩ = some (.slice (some ⟨gp, 0, none⟩) k k)
  d2 : w.cell? ⟨gd, 2, none⟩ = some (.slice (some ⟨gq, 0, none⟩) k k)
  hb : PolyAt w bo lb cb b
  far : ∀ a : Addr, bo = some a → a.block < B
  hP : PolyAt w (some ⟨gp, 0, none⟩) k k P
  hr : PBlk w g r
  hq : PBlk w gq q
theorem PS.later {B : Nat} {w w' : World} {g gq gd gp : Nat} {bo : Option Addr} {lb cb k : Nat} {b P r q : List Int} (h : PS B w g gq gd gp bo lb cb k b P r q) (hb : Below w.heap.size w w') : PS B w' g gq gd gp bo lb cb k b P r q := by
  obtain ⟨o1, o2, o3, o4, o5⟩ := h.ord
  exact ⟨⟨o1, o2, o3, Nat.lt_of_lt_of_le o4 hb.size, o5⟩, (hb.cell (p := ⟨gd, 0, none⟩) (by show gd < _; omega)).trans h.d0, (hb.cell (p := ⟨gd, 1, none⟩) (by show gd < _; omega)).trans h.d1, (hb.cell (p := ⟨gd, 2, none⟩) (by show gd < _; omega)).trans h.d2, h.hb.later hb, h.far, h.hP.later hb, h.hr.later hb o4, h.hq.later hb (by omega)⟩
end Go.Proofs.YthjkdnlbdhhmbaaGreatDoor
/-
  Walks: poly's pseudo-division.
-/
namespace Go.Proofs.YthjkdnlbdhhmbaaGreatDoor
open Go.RowKit
set_option linter.unusedVariables false
set_option linter.unusedSimpArgs false
theorem PolyAt.trim {w : World} {ao ao' : Option Addr} {len cap m : Nat} {p : List Int} (h : PolyAt w ao len cap p) (hm : m = trimN p p.length) (h0 : m = 0 → ao' = none) (h1 : 0 < m → ao' = ao) : PolyAt w ao' m m (trimL p) := by
  rcases Nat.eq_zero_or_pos m with e | e
  · have h2 : trimL p = [] := List.eq_nil_of_length_eq_zero (by rw [trimL_len, ← hm]; exact e)
    rw [h2, h0 e, e]; exact PolyAt.nilPoly _
  · have hl : m ≤ len := by rw [hm, h.hlen]; exact trimN_le _ _
    have h2 := h.take hl
    rw [h1 e]
    refine ⟨by rw [trimL_len]; exact hm, Nat.le_refl _, fun e2 => ?_, ?_⟩
    · have := h.hnil e2; have := h.hcap; omega
    · have h3 := h2.hat
      rw [hm] at h3
      rw [hm]; exact h3
end Go.Proofs.YthjkdnlbdhhmbaaGreatDoor
/-
  Walks: poly's copy, all limbs in one block. (gen/yl.py)
-/
namespace Go.Proofs.YthjkdnlbdhhmbaaGreatDoor
open Go.RowKit
set_option linter.unusedVariables false
set_option linter.unusedSimpArgs false
theorem RowAt.chg {F : Nat → Nat → Prop} {w w' : World} {k : IntKind} {ao : Option Addr} {l c : Nat} {zs : List Int} (h : RowAt w k ao l c zs) (hC : Chg F w w') (hF : ∀ b o, ao = some ⟨b, o, none⟩ → ∀ t, t < l → ¬ F b (o + t)) : RowAt w' k ao l c zs := by
  refine ⟨h.hlen, h.hcap, h.hnil, ?_⟩
  rcases h.hat with h0 | ⟨b, off, h1, hlt, h2⟩
  · exact Or.inl h0
  · exact Or.inr ⟨b, off, h1, Nat.lt_of_lt_of_le hlt hC.size, fun t ht => (hC.cell b (off + t) hlt (hF b off h1 t ht)).trans (h2 t ht)⟩
theorem PBlk.chg {F : Nat → Nat → Prop} {w w' : World} {g : Nat} {p : List Int} (h : PBlk w g p) (hC : Chg F w w') (hg : g < w.heap.size) (hF : ∀ j, ¬ F g j)
    (hrow : ∀ t, t < p.length → ∀ b o l c, w.cell? ⟨g, t * 2 + 1, none⟩ = some (.slice (some ⟨b, o, none⟩) l c) → ∀ s, s < l → ¬ F b (o + s)) : PBlk w' g p := by
  have e := hC.other g hg hF
  refine ⟨fun j => by have := h.soft j; simpa [World.frozen?, e] using this, fun t ht => ?_⟩
  obtain ⟨n, ao, l, c, ⟨h0, h1⟩, hi⟩ := h.coef t ht
  exact ⟨n, ao, l, c, ⟨(World.cell?_of_block (w := w) e).trans h0, (World.cell?_of_block (w := w) e).trans h1⟩, hi.sg, hi.row.chg hC fun b o hb s hs => hrow t ht b o l c (by rw [h1, hb]) s hs⟩
theorem PBlk.drew {w : World} {g : Nat} {p : List Int} (h : PBlk w g p) (hp : 0 < p.length) : PBlk w.drew g p := h.later (Below.refl _ _).drew (h.coef 0 hp).lt
/-- the list's rows in block d lie ahead of place at -/
def Ahead (w : World) (g d at_ n : Nat) : Prop := ∀ t, t < n → ∀ b o l c, w.cell? ⟨g, t * 2 + 1, none⟩ = some (.slice (some ⟨b, o, none⟩) l c) → b = d → o + l ≤ at_
theorem Ahead.mono {w : World} {g d a a' n : Nat} (h : Ahead w g d a n) (ha : a ≤ a') : Ahead w g d a' n := fun t ht b o l c hc hb => Nat.le_trans (h t ht b o l c hc hb) ha
theorem Ahead.kept {w w' : World} {g d a n : Nat} (h : Ahead w g d a n) (e : w'.heap[g]? = w.heap[g]?) : Ahead w' g d a n := fun t ht b o l c hc hb => h t ht b o l c ((World.cell?_of_block (w := w) e).symm.trans hc) hb
theorem Ahead.put {w : World} {g d a n k l c : Nat} {ng : Bool} {p : List Int} (h : Ahead w g d a n) (hP : PBlk w g p) (hn : n = p.length) (hk : k < n) : Ahead ((w.setCell ⟨g, k * 2, none⟩ (.bool ng)).setCell ⟨g, k * 2 + 1, none⟩ (.slice (some ⟨d, a, none⟩) l c)) g d (a + l) n := by
  intro t ht b o l' c' hc hb
  obtain ⟨n0, ao0, l0, c0, ⟨e0, e1⟩, _⟩ := hP.coef k (by omega)
  by_cases e : t = k
  · subst e
    have : ((w.setCell ⟨g, t * 2, none⟩ (.bool ng)).setCell ⟨g, t * 2 + 1, none⟩ (.slice (some ⟨d, a, none⟩) l c)).cell? ⟨g, t * 2 + 1, none⟩ = some (.slice (some ⟨d, a, none⟩) l c) := by simp [go_sem, e0, e1]
    rw [this] at hc
    simp only [Option.some.injEq, Value.slice.injEq, Addr.mk.injEq] at hc
    obtain ⟨⟨_, h2, _⟩, h3, _⟩ := hc
    omega
  · rw [setCell_ne (by rintro ⟨_, h⟩; simp only at h; omega), setCell_ne (by rintro ⟨_, h⟩; simp only at h; omega)] at hc
    have := h t ht b o l' c' hc hb
    omega
end Go.Proofs.YthjkdnlbdhhmbaaGreatDoor
/-
  Walks: wakes; what is handed in, off what lies there; the law's items.
-/
namespace Go.Proofs.YthjkdnlbdhhmbaaGreatDoor
open Go.RowKit
set_option linter.unusedVariables false
set_option linter.unusedSimpArgs false
theorem rv_lim {rs : List (Bool × List Int)} {L : Nat} (h : ∀ r ∈ rs, r.2.length ≤ L) (t : Nat) : (rv rs t).2.length ≤ L := by
  by_cases ht : t < rs.length
  · rw [rv_eq ht]; exact h _ (List.getElem_mem ht)
  · unfold rv; rw [List.getD_eq_getElem?_getD, List.getElem?_eq_none (by omega)]; simp
theorem parg_of_raws {w : World} {ao : Option Addr} {len cap : Nat} {rs : List (Bool × List Int)} (hr : RawsAt w ao len cap rs) (hs : len ≤ 11) (hlim : ∀ t, (rv rs t).2.length ≤ 3) : ∃ p, PArg w ao len cap rs (pmayB len rs) p := by
  cases hm : pmayB len rs with
  | false => exact ⟨[], hr, hs, hlim, hm, fun h => by cases h⟩
  | true =>
    obtain ⟨h1, h2, h3⟩ := pmayB_true hm
    obtain ⟨p, hp⟩ := polys_of_raws hr h2
    have hl : ∀ t, t < len → lim (dig p t) = (rv rs t).2.length := fun t ht => by
      obtain ⟨b, off, n1, ao1, l1, c1, e, _, q1, _, hrow, _⟩ := hr.at ht
      obtain ⟨b', off', n2, ao2, l2, c2, e', _, r1, hi⟩ := hp.at ht
      rw [e] at e'
      cases e'
      rw [q1] at r1
      simp only [Option.some.injEq, Value.slice.injEq] at r1
      obtain ⟨_, r2, _⟩ := r1
      rw [← hi.lim, ← hrow.hlen, r2]
    refine ⟨p, hr, hs, hlim, hm, fun _ => ⟨hp, fun h0 => ?_, fun t => ?_⟩⟩
    · intro e
      have h4 := hl (len - 1) (by rw [hp.hlen]; omega)
      rw [← hp.hlen] at h0 e
      rw [e, lim_zero] at h4
      exact h3 h0 (List.eq_nil_of_length_eq_zero h4.symm)
    · by_cases ht : t < len
      · rw [hl t ht]; exact hlim t
      · rw [dig_past (by rw [← hp.hlen]; omega), lim_zero]; omega
theorem poly_two {w : World} {r : Nat} {n1 n2 : Bool} {o1 o2 : Option Addr} {l1 c1 l2 c2 : Nat} {a b : Int} (hc : Cells w r [.bool n1, .slice o1 l1 c1, .bool n2, .slice o2 l2 c2]) (h1 : IntAt w n1 o1 l1 c1 a) (h2 : IntAt w n2 o2 l2 c2 b) : PolyAt w (some ⟨r, 0, none⟩) 2 2 [a, b] := by
  refine ⟨rfl, Nat.le_refl _, fun e => (by cases e), Or.inr ⟨r, 0, rfl, fun t ht => ?_⟩⟩
  obtain rfl | rfl : t = 0 ∨ t = 1 := by omega
  · exact ⟨n1, o1, l1, c1, ⟨hc 0 _ rfl, hc 1 _ rfl⟩, h1⟩
  · exact ⟨n2, o2, l2, c2, ⟨hc 2 _ rfl, hc 3 _ rfl⟩, h2⟩
theorem poly_three {w : World} {r : Nat} {n1 n2 n3 : Bool} {o1 o2 o3 : Option Addr} {l1 c1 l2 c2 l3 c3 : Nat} {a b c : Int} (hc : Cells w r [.bool n1, .slice o1 l1 c1, .bool n2, .slice o2 l2 c2, .bool n3, .slice o3 l3 c3]) (h1 : IntAt w n1 o1 l1 c1 a) (h2 : IntAt w n2 o2 l2 c2 b) (h3 : IntAt w n3 o3 l3 c3 c) : PolyAt w (some ⟨r, 0, none⟩) 3 3 [a, b, c] := by
  refine ⟨rfl, Nat.le_refl _, fun e => (by cases e), Or.inr ⟨r, 0, rfl, fun t ht => ?_⟩⟩
  obtain rfl | rfl | rfl : t = 0 ∨ t = 1 ∨ t = 2 := by omega
  · exact ⟨n1, o1, l1, c1, ⟨hc 0 _ rfl, hc 1 _ rfl⟩, h1⟩
  · exact ⟨n2, o2, l2, c2, ⟨hc 2 _ rfl, hc 3 _ rfl⟩, h2⟩
  · exact ⟨n3, o3, l3, c3, ⟨hc 4 _ rfl, hc 5 _ rfl⟩, h3⟩
theorem lim_ones : Lim 3 [1, 1] ∧ Lead [1, 1] ∧ mulP [1, 1] [1, 1] = [1, 2, 1] ∧ Lim 4611686018427387904 [1, 2, 1] := by
  have h1 : lim 1 ≤ 1 := lim_small 1 (by decide)
  have h2 : lim 2 ≤ 1 := lim_small 2 (by decide)
  refine ⟨fun t => ?_, fun _ => by decide, by decide, fun t => ?_⟩
  · match t with
    | 0 => exact Nat.le_trans h1 (by decide)
    | 1 => exact Nat.le_trans h1 (by decide)
    | t + 2 => rw [dig_past (by simp), lim_zero]; decide
  · match t with
    | 0 => exact Nat.le_trans h1 (by decide)
    | 1 => exact Nat.le_trans h2 (by decide)
    | 2 => exact Nat.le_trans h1 (by decide)
    | t + 3 => rw [dig_past (by simp), lim_zero]; decide
set_option maxRecDepth 100000 in
set_option maxHeartbeats 2000000 in
theorem wakes4_any (w : World) : Calls Tryz.prog 16 #[] w fun e w' => e = .returned (.bool true) ∧ Below w.heap.size w w' := by
  go_enter Tryz.func16, Tryz.ntmps16
  go_wp2_with (first
    | (go_at_call 44; refine (eqpoly_of (eqints_same oM (some ⟨x6.heap.size, 0, none⟩) 3 3 3 [1, 2, 1] _ HE.out.1 HE.out.2 (by decide) lim_ones.2.2.2)).mono ?_; rintro e x7 ⟨rfl, hb7⟩)
    | (go_at_call 42; have _t := HQ2; refine (rfrom_any 1 _ (by decide) (by decide)).mono ?_; rintro e x6 ⟨n6, o6, l6, c6, rfl, hs, ho, hb⟩; have hB6 := bnext hB5 hb; have HE : Hid (PolyAt (x6.alloc (.cells #[.bool n4, .slice o4 l4 c4, .bool n5, .slice o5 l5 c5, .bool n6, .slice o6 l6 c6] 28)) oM 3 3 [1, 2, 1] ∧ PolyAt (x6.alloc (.cells #[.bool n4, .slice o4 l4 c4, .bool n5, .slice o5 l5 c5, .bool n6, .slice o6 l6 c6] 28)) (some ⟨x6.heap.size, 0, none⟩) 3 3 [1, 2, 1]) := ⟨(HQ2.out.2.2.later hb).later ((Below.refl _ _).alloc (Nat.le_refl _) _), poly_three (Cells.new x6 #[.bool n4, .slice o4 l4 c4, .bool n5, .slice o5 l5 c5, .bool n6, .slice o6 l6 c6] 28) ((HQ2.out.1.later hb).later ((Below.refl _ _).alloc (Nat.le_refl _) _)) ((HQ2.out.2.1.later hb).later ((Below.refl _ _).alloc (Nat.le_refl _) _)) ((ho.int hs).later ((Below.refl _ _).alloc (Nat.le_refl _) _))⟩; clear HQ2; clear hs ho hb)
    | (go_at_call 42; have _t := HQ1; refine (rfrom_any 2 _ (by decide) (by decide)).mono ?_; rintro e x5 ⟨n5, o5, l5, c5, rfl, hs, ho, hb⟩; have hB5 := bnext hB4 hb; have HQ2 : Hid (IntAt x5 n4 o4 l4 c4 1 ∧ IntAt x5 n5 o5 l5 c5 2 ∧ PolyAt x5 oM 3 3 [1, 2, 1]) := ⟨HQ1.out.1.later hb, ho.int hs, HQ1.out.2.later hb⟩; clear HQ1; clear hs ho hb)
    | (go_at_call 42; have _t := HM2; refine (rfrom_any 1 _ (by decide) (by decide)).mono ?_; rintro e x4 ⟨n4, o4, l4, c4, rfl, hs, ho, hb⟩; have hB4 := bnext hB3 hb; have HQ1 : Hid (IntAt x4 n4 o4 l4 c4 1 ∧ PolyAt x4 oM 3 3 [1, 2, 1]) := ⟨ho.int hs, HM2.out.later hb⟩; clear HM2; clear hs ho hb)
    | (go_at_call 11; refine (num4_any _ _).mono ?_; rintro e y3 ⟨rfl, hb⟩; have HM2 : Hid (PolyAt y3 oM 3 3 [1, 2, 1]) := HM.out.later hb; have hB3 := bnext hB2 hb; clear hb HM)
    | (go_at_call 43; refine (plmul_is _ _ 2 2 2 2 (rsOf [1, 1]) (rsOf [1, 1]) true true [1, 1] [1, 1] _ HA.out HA.out 0 rfl).mono ?_; rintro e x3 ⟨oM, lM, rfl, hans, hb⟩; have hP : PolyAt x3 oM lM lM [1, 2, 1] := (by rcases hans with ⟨_, h⟩ | ⟨h, _⟩; (have := h.poly; rw [lim_ones.2.2.1] at this; exact this); exact absurd h (by decide)); obtain rfl : lM = 3 := hP.hlen; have HM : Hid (PolyAt x3 oM 3 3 [1, 2, 1]) := hP; have hB2 := bnext (bnext hB1 ((Below.refl _ _).alloc (Nat.le_refl _) _)) hb; clear hans hP hb)
    | (go_at_call 42; have _t := H1; refine (rfrom_any 1 _ (by decide) (by decide)).mono ?_; rintro e x2 ⟨n2, o2, l2, c2, rfl, hs, ho, hb⟩; have hB1 := bnext H1.out.2 hb; have HA : Hid (PArg (x2.alloc (.cells #[.bool n1, .slice o1 l1 c1, .bool n2, .slice o2 l2 c2] 28)) (some ⟨x2.heap.size, 0, none⟩) 2 2 (rsOf [1, 1]) true [1, 1]) := parg_of_poly (poly_two (Cells.new x2 #[.bool n1, .slice o1 l1 c1, .bool n2, .slice o2 l2 c2] 28) ((H1.out.1.later hb).later ((Below.refl _ _).alloc (Nat.le_refl _) _)) ((ho.int hs).later ((Below.refl _ _).alloc (Nat.le_refl _) _))) (by decide) lim_ones.2.1 lim_ones.1; clear H1; clear hs ho hb)
    | (go_at_call 42; refine (rfrom_any 1 _ (by decide) (by decide)).mono ?_; rintro e x1 ⟨n1, o1, l1, c1, rfl, hs, ho, hb⟩; have H1 : Hid (IntAt x1 n1 o1 l1 c1 1 ∧ Below w.heap.size w x1) := ⟨ho.int hs, hb⟩; clear hs ho hb))
  go_ret
  exact ⟨rfl, bnext (bnext hB6 ((Below.refl _ _).alloc (Nat.le_refl _) _)) hb7⟩
/-- one of the law's items -/
def Item4 (w : World) (b o : Nat) : Prop := ∃ (ao bo co : Option Addr) (la ca lb cb lc cc : Nat) (n n4 n5 n6 : Bool) (o4 p4 o5 p5 o6 p6 : Option Addr) (l4 c4 m4 k4 l5 c5 m5 k5 l6 c6 m6 k6 : Nat) (rs ts : List (Bool × List Int)) (zs : List Int), (∀ (j : Nat) (u : Value), [.slice ao la ca, .slice bo lb cb, .bool n, .slice co lc cc, .bool n4, .slice o4 l4 c4, .slice p4 m4 k4, .bool n5, .slice o5 l5 c5, .slice p5 m5 k5, .bool n6, .slice o6 l6 c6, .slice p6 m6 k6][j]? = some u → w.cell? ⟨b, o + j, none⟩ = some u) ∧ RawsAt w ao la ca rs ∧ RawsAt w bo lb cb ts ∧ RowAt w .u64 co lc cc zs ∧ Wd 18446744073709551616 zs ∧ ca ≤ 9223372036854775807 ∧ cb ≤ 9223372036854775807
theorem Item4.elim {w : World} {b o : Nat} {P : Prop} (h : Item4 w b o) (k : ∀ (ao bo co : Option Addr) (la ca lb cb lc cc : Nat) (n n4 n5 n6 : Bool) (o4 p4 o5 p5 o6 p6 : Option Addr) (l4 c4 m4 k4 l5 c5 m5 k5 l6 c6 m6 k6 : Nat) (rs ts : List (Bool × List Int)) (zs : List Int), (∀ (j : Nat) (u : Value), [.slice ao la ca, .slice bo lb cb, .bool n, .slice co lc cc, .bool n4, .slice o4 l4 c4, .slice p4 m4 k4, .bool n5, .slice o5 l5 c5, .slice p5 m5 k5, .bool n6, .slice o6 l6 c6, .slice p6 m6 k6][j]? = some u → w.cell? ⟨b, o + j, none⟩ = some u) ∧ RawsAt w ao la ca rs ∧ RawsAt w bo lb cb ts ∧ RowAt w .u64 co lc cc zs ∧ Wd 18446744073709551616 zs ∧ ca ≤ 9223372036854775807 ∧ cb ≤ 9223372036854775807 → P) : P := by
  obtain ⟨ao, bo, co, la, ca, lb, cb, lc, cc, n, n4, n5, n6, o4, p4, o5, p5, o6, p6, l4, c4, m4, k4, l5, c5, m5, k5, l6, c6, m6, k6, rs, ts, zs, h⟩ := h
  exact k ao bo co la ca lb cb lc cc n n4 n5 n6 o4 p4 o5 p5 o6 p6 l4 c4 m4 k4 l5 c5 m5 k5 l6 c6 m6 k6 rs ts zs h
end Go.Proofs.YthjkdnlbdhhmbaaGreatDoor
/-
  PolyLaws: what its walk needs: lengths of products and of values, multiples, Deg, what is too heavy. (gen/ym.py)
-/
namespace Go.Proofs.YthjkdnlbdhhmbaaGreatDoor
open Go.RowKit
set_option linter.unusedVariables false
set_option linter.unusedSimpArgs false
theorem GP.mk' {w : World} {ao : Option Addr} {l c A : Nat} {p : List Int} (h : PolyAt w ao l c p) (hL : Lead p) (hM : Lim A p) (hs : p.length ≤ 50) (hA : A ≤ 100000) : GP w ao l c A p := ⟨h, hL, hM, by rw [h.hlen]; exact hs, hA⟩
set_option maxRecDepth 100000 in
set_option maxHeartbeats 2000000 in
theorem longRat4s_any (na : Bool) (ao po : Option Addr) (la ca lp cp : Nat) (n : Int) (w : World) :
    Calls Tryz.prog 21 #[.agg #[.bool na, .slice ao la ca, .slice po lp cp], .int .i64 n] w fun e w' => ∃ b, e = .returned (.bool b) ∧ (b = false → (la : Int) ≤ n ∧ (lp : Int) ≤ n) ∧ Below w.heap.size w w' := by
  have hA : Below w.heap.size w (w.alloc (.cells #[.bool na, .slice ao la ca, .slice po lp cp] 30)) := (Below.refl _ _).alloc (Nat.le_refl _) _
  have HC := Cells.new w #[.bool na, .slice ao la ca, .slice po lp cp] 30
  obtain ⟨b, hb⟩ : ∃ b, decide (n < (la : Int)) = b := ⟨_, rfl⟩
  have HN : Hid (b = false → (la : Int) ≤ n) := fun e => by rw [e] at hb; have := of_decide_eq_false hb; omega
  have hcon : ∀ X, Calls Tryz.prog 20 #[.agg #[.bool na, .slice ao la ca], .int .i64 n] X fun e w' => e = .returned (.bool b) ∧ Below X.heap.size X w' := fun X => (long_any na ao la ca n X).mono fun e w' h => by rw [hb] at h; exact h
  clear hb
  cases b
  · have HN2 : Hid ((la : Int) ≤ n) := HN.out rfl
    clear HN
    go_enter Tryz.func21, Tryz.ntmps21
    go_wp2_with (go_at_call 20; refine (hcon _).mono ?_; rintro e w1 ⟨rfl, hb1⟩; have q2 := HC.later hb1 (by simp) 2 _ rfl)
    go_ret
    exact ⟨_, rfl, fun h => ⟨HN2.out, by have := of_decide_eq_false h; omega⟩, bnext hA hb1⟩
  · go_enter Tryz.func21, Tryz.ntmps21
    go_wp2_with (go_at_call 20; refine (hcon _).mono ?_; rintro e w1 ⟨rfl, hb1⟩)
    go_ret
    exact ⟨_, rfl, fun h => (by cases h), bnext hA hb1⟩
/-- one of the law's items, with its rational's rows -/
def Item5 (w : World) (b o : Nat) : Prop := ∃ (ao bo co : Option Addr) (la ca lb cb lc cc : Nat) (n n4 n5 n6 : Bool) (o4 p4 o5 p5 o6 p6 : Option Addr) (l4 c4 m4 k4 l5 c5 m5 k5 l6 c6 m6 k6 : Nat) (rs ts : List (Bool × List Int)) (zs ds : List Int), (∀ (j : Nat) (u : Value), [.slice ao la ca, .slice bo lb cb, .bool n, .slice co lc cc, .bool n4, .slice o4 l4 c4, .slice p4 m4 k4, .bool n5, .slice o5 l5 c5, .slice p5 m5 k5, .bool n6, .slice o6 l6 c6, .slice p6 m6 k6][j]? = some u → w.cell? ⟨b, o + j, none⟩ = some u) ∧ (RawsAt w ao la ca rs ∧ RawsAt w bo lb cb ts ∧ ca ≤ 9223372036854775807 ∧ cb ≤ 9223372036854775807) ∧ RowAt w .u64 o4 l4 c4 zs ∧ Wd 18446744073709551616 zs ∧ RowAt w .u64 p4 m4 k4 ds ∧ Wd 18446744073709551616 ds
theorem Item5.elim {w : World} {b o : Nat} {P : Prop} (h : Item5 w b o) (k : ∀ (ao bo co : Option Addr) (la ca lb cb lc cc : Nat) (n n4 n5 n6 : Bool) (o4 p4 o5 p5 o6 p6 : Option Addr) (l4 c4 m4 k4 l5 c5 m5 k5 l6 c6 m6 k6 : Nat) (rs ts : List (Bool × List Int)) (zs ds : List Int), (∀ (j : Nat) (u : Value), [.slice ao la ca, .slice bo lb cb, .bool n, .slice co lc cc, .bool n4, .slice o4 l4 c4, .slice p4 m4 k4, .bool n5, .slice o5 l5 c5, .slice p5 m5 k5, .bool n6, .slice o6 l6 c6, .slice p6 m6 k6][j]? = some u → w.cell? ⟨b, o + j, none⟩ = some u) ∧ (RawsAt w ao la ca rs ∧ RawsAt w bo lb cb ts ∧ ca ≤ 9223372036854775807 ∧ cb ≤ 9223372036854775807) ∧ RowAt w .u64 o4 l4 c4 zs ∧ Wd 18446744073709551616 zs ∧ RowAt w .u64 p4 m4 k4 ds ∧ Wd 18446744073709551616 ds → P) : P := by
  obtain ⟨ao, bo, co, la, ca, lb, cb, lc, cc, n, n4, n5, n6, o4, p4, o5, p5, o6, p6, l4, c4, m4, k4, l5, c5, m5, k5, l6, c6, m6, k6, rs, ts, zs, ds, h⟩ := h
  exact k ao bo co la ca lb cb lc cc n n4 n5 n6 o4 p4 o5 p5 o6 p6 l4 c4 m4 k4 l5 c5 m5 k5 l6 c6 m6 k6 rs ts zs ds h
theorem GP.mono {w : World} {ao : Option Addr} {l c A B : Nat} {p : List Int} (h : GP w ao l c A p) (h1 : A ≤ B) (h2 : B ≤ 100000) : GP w ao l c B p := ⟨h.at', h.lead, h.lims.mono h1, h.short, h2⟩
/-- a rational in a variable -/
def RV5 (w : World) (r : Nat) (v : Rat) : Prop := ∃ n o l c p m k, Bx w r [.bool n, .slice o l c, .slice p m k] ∧ RatAt w n o l c p m k v
theorem RV5.lt {w : World} {r : Nat} {v : Rat} (h : RV5 w r v) : r < w.heap.size := by obtain ⟨n, o, l, c, p, m, k, h, _⟩ := h; exact h.lt
theorem RV5.later {w w' : World} {r : Nat} {v : Rat} (h : RV5 w r v) (hb : Below w.heap.size w w') : RV5 w' r v := by
  have hl := h.lt
  obtain ⟨n, o, l, c, p, m, k, h1, h2⟩ := h
  exact ⟨n, o, l, c, p, m, k, h1.later hb hl, h2.later hb⟩
end Go.Proofs.YthjkdnlbdhhmbaaGreatDoor
/-
  OI: the law's items with their intervals: heavy ones, what lies in memory. (gen/oi.py)
-/
namespace Go.Proofs.YthjkdnlbdhhmbaaGreatDoor
open Go.RowKit
set_option linter.unusedVariables false
set_option linter.unusedSimpArgs false
set_option maxRecDepth 100000 in
set_option maxHeartbeats 2000000 in
theorem heavy6s_any (ao bo co : Option Addr) (la ca lb cb lc cc : Nat) (n n4 n5 n6 : Bool) (o4 p4 o5 p5 o6 p6 : Option Addr) (l4 c4 m4 k4 l5 c5 m5 k5 l6 c6 m6 k6 : Nat) (rs ts : List (Bool × List Int)) (w : World) (hp : RawsAt w ao la ca rs) (hs : RawsAt w bo lb cb ts) (hla : la ≤ 9223372036854775807) (hlb : lb ≤ 9223372036854775807) :
    Calls Tryz.prog 5 #[.agg #[.slice ao la ca, .slice bo lb cb, .bool n, .slice co lc cc, .bool n4, .slice o4 l4 c4, .slice p4 m4 k4, .bool n5, .slice o5 l5 c5, .slice p5 m5 k5, .bool n6, .slice o6 l6 c6, .slice p6 m6 k6]] w fun e w' => ∃ hv : Bool, e = .returned (.bool hv) ∧ (hv = false → heavyB 10 3 la rs = false ∧ heavyB 10 3 lb ts = false ∧ lc ≤ 3 ∧ (l4 ≤ 2 ∧ m4 ≤ 2) ∧ (l5 ≤ 2 ∧ m5 ≤ 2) ∧ l6 ≤ 2 ∧ m6 ≤ 2) ∧ Below w.heap.size w w' := by
  obtain ⟨W, hW⟩ : ∃ W, W = (w.alloc (.cells #[.slice ao la ca, .slice bo lb cb, .bool n, .slice co lc cc, .bool n4, .slice o4 l4 c4, .slice p4 m4 k4, .bool n5, .slice o5 l5 c5, .slice p5 m5 k5, .bool n6, .slice o6 l6 c6, .slice p6 m6 k6] 34)) := ⟨_, rfl⟩
  have HC : Hid ((∀ W', Below W.heap.size W W' → Cells W' w.heap.size [.slice ao la ca, .slice bo lb cb, .bool n, .slice co lc cc, .bool n4, .slice o4 l4 c4, .slice p4 m4 k4, .bool n5, .slice o5 l5 c5, .slice p5 m5 k5, .bool n6, .slice o6 l6 c6, .slice p6 m6 k6]) ∧ Below w.heap.size w W) := by
    rw [hW]
    exact ⟨fun W' hb => (Cells.new w #[.slice ao la ca, .slice bo lb cb, .bool n, .slice co lc cc, .bool n4, .slice o4 l4 c4, .slice p4 m4 k4, .bool n5, .slice o5 l5 c5, .slice p5 m5 k5, .bool n6, .slice o6 l6 c6, .slice p6 m6 k6] 34).later hb (by simp), (Below.refl _ _).alloc (Nat.le_refl _) _⟩
  obtain ⟨b1, hb1⟩ : ∃ b, heavyB 10 3 la rs = b := ⟨_, rfl⟩
  obtain ⟨b2, hb2⟩ : ∃ b, heavyB 10 3 lb ts = b := ⟨_, rfl⟩
  obtain ⟨b3, hb3⟩ : ∃ b, decide ((3 : Int) < (lc : Int)) = b := ⟨_, rfl⟩
  have HB : Hid (heavyB 10 3 la rs = b1 ∧ heavyB 10 3 lb ts = b2 ∧ decide ((3 : Int) < (lc : Int)) = b3) := ⟨hb1, hb2, hb3⟩
  have h1 : ∀ X, Below W.heap.size W X → Calls Tryz.prog 19 #[.slice ao la ca, .int .i64 10, .int .i64 3] X fun e w' => e = .returned (.bool b1) ∧ Below X.heap.size X w' := fun X hb => heavyPoly_any 10 3 ao la ca rs X ((hp.later HC.out.2).later hb) (by omega) (by decide) b1 hb1
  have h2 : ∀ X, Below W.heap.size W X → Calls Tryz.prog 19 #[.slice bo lb cb, .int .i64 10, .int .i64 3] X fun e w' => e = .returned (.bool b2) ∧ Below X.heap.size X w' := fun X hb => heavyPoly_any 10 3 bo lb cb ts X ((hs.later HC.out.2).later hb) (by omega) (by decide) b2 hb2
  have h3 : ∀ X, Calls Tryz.prog 20 #[.agg #[.bool n, .slice co lc cc], .int .i64 3] X fun e w' => e = .returned (.bool b3) ∧ Below X.heap.size X w' := fun X => (long_any n co lc cc 3 X).mono fun e w' h => by rw [hb3] at h; exact h
  clear hb1 hb2 hb3 hp hs
  cases b1
  · cases b2
    · cases b3
      · have HF : Hid (heavyB 10 3 la rs = false ∧ heavyB 10 3 lb ts = false ∧ lc ≤ 3) := ⟨HB.out.1, HB.out.2.1, by have := of_decide_eq_false HB.out.2.2; omega⟩
        go_enter Tryz.func5, Tryz.ntmps5
        go_wp2_with (first
          | (go_at_call 20; refine (h3 _).mono ?_; rintro e w3 ⟨rfl, hb3'⟩; have hb3 := bnext hb2 hb3'; clear hb3' q2 q3; have q4 := HC.out.1 _ hb3 4 _ rfl; have q5 := HC.out.1 _ hb3 5 _ rfl; have q6 := HC.out.1 _ hb3 6 _ rfl)
          | (go_at_call 19; have _t := hb1; refine (h2 _ hb1).mono ?_; rintro e w2 ⟨rfl, hb2'⟩; have hb2 := bnext hb1 hb2'; clear hb2' q1; have q2 := HC.out.1 _ hb2 2 _ rfl; have q3 := HC.out.1 _ hb2 3 _ rfl)
          | (go_at_call 19; rw [← hW]; refine (h1 _ (Below.refl _ _)).mono ?_; rintro e w1 ⟨rfl, hb1⟩; have q1 := HC.out.1 _ hb1 1 _ rfl)
          | (go_at_call 21; have _t := hb5; refine (longRat4s_any _ _ _ _ _ _ _ _ _).mono ?_; rintro e w6 ⟨b6, rfl, hs6, hb6'⟩; have hb6 := bnext hb5 hb6'; have HS6 : Hid (b6 = false → l6 ≤ 2 ∧ m6 ≤ 2) := (fun q => by have := hs6 q; omega); clear hb6' hs6 q10 q11 q12)
          | (go_at_call 21; have _t := hb4; refine (longRat4s_any _ _ _ _ _ _ _ _ _).mono ?_; rintro e w5 ⟨b5, rfl, hs5, hb5'⟩; have hb5 := bnext hb4 hb5'; have HS7 : Hid (b5 = false → l5 ≤ 2 ∧ m5 ≤ 2) := (fun q => by have := hs5 q; omega); clear hb5' hs5 q7 q8 q9; have q10 := HC.out.1 _ hb5 10 _ rfl; have q11 := HC.out.1 _ hb5 11 _ rfl; have q12 := HC.out.1 _ hb5 12 _ rfl; cases b5 <;> first | (have HS8 : Hid (l5 ≤ 2 ∧ m5 ≤ 2) := HS7.out rfl; clear HS7) | clear HS7)
          | (go_at_call 21; have _t := hb3; refine (longRat4s_any _ _ _ _ _ _ _ _ _).mono ?_; rintro e w4 ⟨b4, rfl, hs4, hb4'⟩; have hb4 := bnext hb3 hb4'; have HS4 : Hid (b4 = false → l4 ≤ 2 ∧ m4 ≤ 2) := (fun q => by have := hs4 q; omega); clear hb4' hs4 q4 q5 q6; have q7 := HC.out.1 _ hb4 7 _ rfl; have q8 := HC.out.1 _ hb4 8 _ rfl; have q9 := HC.out.1 _ hb4 9 _ rfl; cases b4 <;> first | (have HS5 : Hid (l4 ≤ 2 ∧ m4 ≤ 2) := HS4.out rfl; clear HS4) | clear HS4))
        all_goals go_ret
        all_goals first
          | exact ⟨_, rfl, fun h => ⟨HF.out.1, HF.out.2.1, HF.out.2.2, HS5.out, HS8.out, HS6.out h⟩, bnext HC.out.2 hb6⟩
          | exact ⟨_, rfl, fun h => (by cases h), bnext HC.out.2 hb4⟩
          | exact ⟨_, rfl, fun h => (by cases h), bnext HC.out.2 hb5⟩
          | exact ⟨_, rfl, fun h => (by cases h), bnext HC.out.2 hb6⟩
      · go_enter Tryz.func5, Tryz.ntmps5
        go_wp2_with (first
          | (go_at_call 20; refine (h3 _).mono ?_; rintro e w3 ⟨rfl, hb3'⟩; have hb3 := bnext hb2 hb3'; clear hb3' q2 q3; have q4 := HC.out.1 _ hb3 4 _ rfl; have q5 := HC.out.1 _ hb3 5 _ rfl; have q6 := HC.out.1 _ hb3 6 _ rfl)
          | (go_at_call 19; have _t := hb1; refine (h2 _ hb1).mono ?_; rintro e w2 ⟨rfl, hb2'⟩; have hb2 := bnext hb1 hb2'; clear hb2' q1; have q2 := HC.out.1 _ hb2 2 _ rfl; have q3 := HC.out.1 _ hb2 3 _ rfl)
          | (go_at_call 19; rw [← hW]; refine (h1 _ (Below.refl _ _)).mono ?_; rintro e w1 ⟨rfl, hb1⟩; have q1 := HC.out.1 _ hb1 1 _ rfl))
        go_ret
        exact ⟨true, rfl, fun h => (by cases h), bnext HC.out.2 hb3⟩
    · go_enter Tryz.func5, Tryz.ntmps5
      go_wp2_with (first
        | (go_at_call 19; have _t := hb1; refine (h2 _ hb1).mono ?_; rintro e w2 ⟨rfl, hb2'⟩; have hb2 := bnext hb1 hb2'; clear hb2' q1; have q2 := HC.out.1 _ hb2 2 _ rfl; have q3 := HC.out.1 _ hb2 3 _ rfl)
        | (go_at_call 19; rw [← hW]; refine (h1 _ (Below.refl _ _)).mono ?_; rintro e w1 ⟨rfl, hb1⟩; have q1 := HC.out.1 _ hb1 1 _ rfl))
      go_ret
      exact ⟨true, rfl, fun h => (by cases h), bnext HC.out.2 hb2⟩
  · go_enter Tryz.func5, Tryz.ntmps5
    go_wp2_with (first
      | (go_at_call 19; rw [← hW]; refine (h1 _ (Below.refl _ _)).mono ?_; rintro e w1 ⟨rfl, hb1⟩; have q1 := HC.out.1 _ hb1 1 _ rfl))
    go_ret
    exact ⟨true, rfl, fun h => (by cases h), bnext HC.out.2 hb1⟩
/-- one of the law's items, with its rational's rows -/
def Item6 (w : World) (b o : Nat) : Prop := ∃ (ao bo co : Option Addr) (la ca lb cb lc cc : Nat) (n n4 n5 n6 : Bool) (o4 p4 o5 p5 o6 p6 : Option Addr) (l4 c4 m4 k4 l5 c5 m5 k5 l6 c6 m6 k6 : Nat) (rs ts : List (Bool × List Int)) (zs ds x5 d5 x6 d6 : List Int), (∀ (j : Nat) (u : Value), [.slice ao la ca, .slice bo lb cb, .bool n, .slice co lc cc, .bool n4, .slice o4 l4 c4, .slice p4 m4 k4, .bool n5, .slice o5 l5 c5, .slice p5 m5 k5, .bool n6, .slice o6 l6 c6, .slice p6 m6 k6][j]? = some u → w.cell? ⟨b, o + j, none⟩ = some u) ∧ (RawsAt w ao la ca rs ∧ RawsAt w bo lb cb ts ∧ ca ≤ 9223372036854775807 ∧ cb ≤ 9223372036854775807) ∧ RowAt w .u64 o4 l4 c4 zs ∧ Wd 18446744073709551616 zs ∧ RowAt w .u64 p4 m4 k4 ds ∧ Wd 18446744073709551616 ds ∧ (RowAt w .u64 o5 l5 c5 x5 ∧ Wd 18446744073709551616 x5 ∧ RowAt w .u64 p5 m5 k5 d5 ∧ Wd 18446744073709551616 d5) ∧ RowAt w .u64 o6 l6 c6 x6 ∧ Wd 18446744073709551616 x6 ∧ RowAt w .u64 p6 m6 k6 d6 ∧ Wd 18446744073709551616 d6
theorem Item6.elim {w : World} {b o : Nat} {P : Prop} (h : Item6 w b o) (k : ∀ (ao bo co : Option Addr) (la ca lb cb lc cc : Nat) (n n4 n5 n6 : Bool) (o4 p4 o5 p5 o6 p6 : Option Addr) (l4 c4 m4 k4 l5 c5 m5 k5 l6 c6 m6 k6 : Nat) (rs ts : List (Bool × List Int)) (zs ds x5 d5 x6 d6 : List Int), (∀ (j : Nat) (u : Value), [.slice ao la ca, .slice bo lb cb, .bool n, .slice co lc cc, .bool n4, .slice o4 l4 c4, .slice p4 m4 k4, .bool n5, .slice o5 l5 c5, .slice p5 m5 k5, .bool n6, .slice o6 l6 c6, .slice p6 m6 k6][j]? = some u → w.cell? ⟨b, o + j, none⟩ = some u) ∧ (RawsAt w ao la ca rs ∧ RawsAt w bo lb cb ts ∧ ca ≤ 9223372036854775807 ∧ cb ≤ 9223372036854775807) ∧ RowAt w .u64 o4 l4 c4 zs ∧ Wd 18446744073709551616 zs ∧ RowAt w .u64 p4 m4 k4 ds ∧ Wd 18446744073709551616 ds ∧ (RowAt w .u64 o5 l5 c5 x5 ∧ Wd 18446744073709551616 x5 ∧ RowAt w .u64 p5 m5 k5 d5 ∧ Wd 18446744073709551616 d5) ∧ RowAt w .u64 o6 l6 c6 x6 ∧ Wd 18446744073709551616 x6 ∧ RowAt w .u64 p6 m6 k6 d6 ∧ Wd 18446744073709551616 d6 → P) : P := by
  obtain ⟨ao, bo, co, la, ca, lb, cb, lc, cc, n, n4, n5, n6, o4, p4, o5, p5, o6, p6, l4, c4, m4, k4, l5, c5, m5, k5, l6, c6, m6, k6, rs, ts, zs, ds, x5, d5, x6, d6, h⟩ := h
  exact k ao bo co la ca lb cb lc cc n n4 n5 n6 o4 p4 o5 p5 o6 p6 l4 c4 m4 k4 l5 c5 m5 k5 l6 c6 m6 k6 rs ts zs ds x5 d5 x6 d6 h
def Items6 (w : World) (lo : Option Addr) (n : Nat) : Prop := ∀ i, i < n → ∃ b off, lo = some ⟨b, off, none⟩ ∧ b < w.heap.size ∧ Item6 w b (off + i * 13)
end Go.Proofs.YthjkdnlbdhhmbaaGreatDoor
/-
  OL: the law's walk: PolyHolds. (gen/ol.py)
-/
namespace Go.Proofs.YthjkdnlbdhhmbaaGreatDoor
open Go.RowKit
set_option linter.unusedVariables false
set_option linter.unusedSimpArgs false
theorem bad1_twoH (m : Bool) : (m = true ∧ bad1 m = 0) ∨ (m = false ∧ bad1 m = 50) := by cases m <;> simp [bad1]
theorem RV5.put {w : World} {r : Nat} {v u : Rat} {n : Bool} {o p : Option Addr} {l c m k : Nat} (h : RV5 w r u) (hv : RatAt w n o l c p m k v) : RV5 (((w.setCell ⟨r, 0, none⟩ (.bool n)).setCell ⟨r, 1, none⟩ (.slice o l c)).setCell ⟨r, 2, none⟩ (.slice p m k)) r v := by
  obtain ⟨n0, o0, l0, c0, p0, m0, k0, hb, _⟩ := h
  have b0 := hb.set1 (j := 0) (v := .bool n) rfl
  have b1 := b0.set1 (j := 1) (v := .slice o l c) rfl
  exact ⟨n, o, l, c, p, m, k, b1.set1 (j := 2) (v := .slice p m k) rfl, ((hv.setOne (hb.1 0 _ rfl) (fun u e => by cases e) _).setOne (b0.1 1 _ rfl) (fun u e => by cases e) _).setOne (b1.1 2 _ rfl) (fun u e => by cases e) _⟩
set_option maxRecDepth 100000 in
set_option maxHeartbeats 16000000 in
theorem polyHolds_any (lo : Option Addr) (len cap : Nat) (w : World) (hE : Items6 w lo len) (hl : len ≤ 9223372036854775807) (hT : TabAt 0 Lib.deBruijn64tab w) :
    Calls Tryz.prog 4 #[.slice lo len cap] w fun e w' => e = .returned (.bool true) ∧ Below w.heap.size w w' := by
  have HE : Hid (Items6 w lo len ∧ TabAt 0 Lib.deBruijn64tab w) := ⟨hE, hT⟩
  clear hE hT
  go_enter Tryz.func4, Tryz.ntmps4
  go_wp2
  go_loopw [3] (fun i wr => ∃ k : Nat, k ≤ 15 ∧ i = .int .i64 (k : Int) ∧ Below w.heap.size w wr) (fun i _ => 15 - (intOf i).toNat)
  case atStart => exact ⟨0, Nat.zero_le _, rfl, Below.refl _ _⟩
  case round =>
    obtain ⟨wo, hwo⟩ : ∃ x, x = wr := ⟨_, rfl⟩
    subst hwo
    obtain ⟨k, hk, rfl, hbel⟩ := hrel
    have z0 : (0 : Int) ≤ (k : Int) := by omega
    by_cases hlt : k < len
    · have g1 : (k : Int) < (len : Int) := by omega
      by_cases h15 : k < 15
      · have g2 : (k : Int) < 15 := by omega
        obtain ⟨b, off, rfl, hblt, hit⟩ := HE.out.1 k hlt
        refine hit.elim ?_
        intro ao bo co la ca lb cb lc cc n n4 n5 n6 o4 p4 o5 p5 o6 p6 l4 c4 m4 k4 l5 c5 m5 k5 l6 c6 m6 k6 rs ts zs ds x5 d5 x6 d6 ⟨hcell, ⟨hp, hs, hca, hcb⟩, _, _, _, _, ⟨hz5, hw5, hd5, hv5⟩, hz6, hw6, hd6, hv6⟩
        have e0 : wo.cell? ⟨b, off + k * 13, none⟩ = some (.slice ao la ca) := (hbel.cell (p := ⟨b, off + k * 13, none⟩) hblt).trans (hcell 0 _ rfl)
        have e1 : wo.cell? ⟨b, off + k * 13 + 1, none⟩ = some (.slice bo lb cb) := (hbel.cell (p := ⟨b, off + k * 13 + 1, none⟩) hblt).trans (hcell 1 _ rfl)
        have e2 : wo.cell? ⟨b, off + k * 13 + 2, none⟩ = some (.bool n) := (hbel.cell (p := ⟨b, off + k * 13 + 2, none⟩) hblt).trans (hcell 2 _ rfl)
        have e3 : wo.cell? ⟨b, off + k * 13 + 3, none⟩ = some (.slice co lc cc) := (hbel.cell (p := ⟨b, off + k * 13 + 3, none⟩) hblt).trans (hcell 3 _ rfl)
        have e4 : wo.cell? ⟨b, off + k * 13 + 4, none⟩ = some (.bool n4) := (hbel.cell (p := ⟨b, off + k * 13 + 4, none⟩) hblt).trans (hcell 4 _ rfl)
        have e5 : wo.cell? ⟨b, off + k * 13 + 5, none⟩ = some (.slice o4 l4 c4) := (hbel.cell (p := ⟨b, off + k * 13 + 5, none⟩) hblt).trans (hcell 5 _ rfl)
        have e6 : wo.cell? ⟨b, off + k * 13 + 6, none⟩ = some (.slice p4 m4 k4) := (hbel.cell (p := ⟨b, off + k * 13 + 6, none⟩) hblt).trans (hcell 6 _ rfl)
        have e7 : wo.cell? ⟨b, off + k * 13 + 7, none⟩ = some (.bool n5) := (hbel.cell (p := ⟨b, off + k * 13 + 7, none⟩) hblt).trans (hcell 7 _ rfl)
        have e8 : wo.cell? ⟨b, off + k * 13 + 8, none⟩ = some (.slice o5 l5 c5) := (hbel.cell (p := ⟨b, off + k * 13 + 8, none⟩) hblt).trans (hcell 8 _ rfl)
        have e9 : wo.cell? ⟨b, off + k * 13 + 9, none⟩ = some (.slice p5 m5 k5) := (hbel.cell (p := ⟨b, off + k * 13 + 9, none⟩) hblt).trans (hcell 9 _ rfl)
        have e10 : wo.cell? ⟨b, off + k * 13 + 10, none⟩ = some (.bool n6) := (hbel.cell (p := ⟨b, off + k * 13 + 10, none⟩) hblt).trans (hcell 10 _ rfl)
        have e11 : wo.cell? ⟨b, off + k * 13 + 11, none⟩ = some (.slice o6 l6 c6) := (hbel.cell (p := ⟨b, off + k * 13 + 11, none⟩) hblt).trans (hcell 11 _ rfl)
        have e12 : wo.cell? ⟨b, off + k * 13 + 12, none⟩ = some (.slice p6 m6 k6) := (hbel.cell (p := ⟨b, off + k * 13 + 12, none⟩) hblt).trans (hcell 12 _ rfl)
        obtain ⟨X, hX⟩ : ∃ X, X = wo.alloc (.cells #[.slice ao la ca, .slice bo lb cb, .bool n, .slice co lc cc, .bool n4, .slice o4 l4 c4, .slice p4 m4 k4, .bool n5, .slice o5 l5 c5, .slice p5 m5 k5, .bool n6, .slice o6 l6 c6, .slice p6 m6 k6] 34) := ⟨_, rfl⟩
        have HXB : Hid (Below wo.heap.size wo X ∧ Below w.heap.size w X) := by rw [hX]; exact ⟨(Below.refl _ _).alloc (Nat.le_refl _) _, bnext hbel ((Below.refl _ _).alloc (Nat.le_refl _) _)⟩
        have HCL : Hid (∀ V, Below X.heap.size X V → Cells V wo.heap.size [.slice ao la ca, .slice bo lb cb, .bool n, .slice co lc cc, .bool n4, .slice o4 l4 c4, .slice p4 m4 k4, .bool n5, .slice o5 l5 c5, .slice p5 m5 k5, .bool n6, .slice o6 l6 c6, .slice p6 m6 k6]) := by
          rw [hX]
          exact fun V hb => (Cells.new wo #[.slice ao la ca, .slice bo lb cb, .bool n, .slice co lc cc, .bool n4, .slice o4 l4 c4, .slice p4 m4 k4, .bool n5, .slice o5 l5 c5, .slice p5 m5 k5, .bool n6, .slice o6 l6 c6, .slice p6 m6 k6] 34).later hb (by simp)
        have HP0 : Hid (RawsAt X ao la ca rs ∧ RawsAt X bo lb cb ts ∧ (RowAt X .u64 o5 l5 c5 x5 ∧ RowAt X .u64 p5 m5 k5 d5 ∧ RowAt X .u64 o6 l6 c6 x6 ∧ RowAt X .u64 p6 m6 k6 d6) ∧ TabAt 0 Lib.deBruijn64tab X) := ⟨hp.later HXB.out.2, hs.later HXB.out.2, ⟨hz5.later HXB.out.2, hd5.later HXB.out.2, hz6.later HXB.out.2, hd6.later HXB.out.2⟩, tab_later HE.out.2 HXB.out.2⟩
        have HW0 : Hid ((la ≤ 9223372036854775807 ∧ lb ≤ 9223372036854775807) ∧ Wd 18446744073709551616 x5 ∧ Wd 18446744073709551616 d5 ∧ Wd 18446744073709551616 x6 ∧ Wd 18446744073709551616 d6) := ⟨⟨Nat.le_trans hp.hcap hca, Nat.le_trans hs.hcap hcb⟩, hw5, hv5, hw6, hv6⟩
        clear hcell hp hs hz5 hd5 hz6 hd6 hw5 hv5 hw6 hv6 hca hcb hit hblt
        go_upto_if 26 with (go_at_call 5; rw [← hX]; clear hX; refine (heavy6s_any ao bo co la ca lb cb lc cc n n4 n5 n6 o4 p4 o5 p5 o6 p6 l4 c4 m4 k4 l5 c5 m5 k5 l6 c6 m6 k6 rs ts _ HP0.out.1 HP0.out.2.1 HW0.out.1.1 HW0.out.1.2).mono ?_; rintro e Y ⟨hv, rfl, hcond, hBy⟩)
        clear e0 e1 e2 e3 e4 e5 e6 e7 e8 e9 e10 e11 e12
        cases hv
        rotate_left
        · go_wp2
          go_ret
          exact ⟨rfl, bnext HXB.out.2 hBy⟩
        obtain ⟨hP, hQ, _, _, ⟨hl5, hm5⟩, hl6, hm6⟩ := hcond rfl
        obtain ⟨hla, hlimP⟩ := heavyB_false hP
        replace hla : la ≤ 11 := hla
        have HLM : Hid (∀ r ∈ rs, r.2.length ≤ 3) := hlimP
        have HBY : Hid (Below X.heap.size X Y) := hBy
        have HLS : Hid (l5 ≤ 2 ∧ m5 ≤ 2 ∧ l6 ≤ 2 ∧ m6 ≤ 2) := ⟨hl5, hm5, hl6, hm6⟩
        clear hP hQ hlimP hcond hBy
        obtain ⟨mP, hmP⟩ : ∃ m, pmayB la rs = m := ⟨_, rfl⟩
        obtain ⟨mS, hmS1, hmS2⟩ := smay_is n5 n6 o5 p5 o6 p6 l5 c5 m5 k5 l6 c6 m6 k6 x5 d5 x6 d6 X HP0.out.2.2.1.1 HW0.out.2.1 HP0.out.2.2.1.2.1 HW0.out.2.2.1 HP0.out.2.2.1.2.2.1 HW0.out.2.2.2.1 HP0.out.2.2.1.2.2.2 HW0.out.2.2.2.2 (by omega) (by omega) (by omega) (by omega)
        have HMS : Hid (∀ V, Below X.heap.size X V → Calls Tryz.prog 8 #[.agg #[.bool n5, .slice o5 l5 c5, .slice p5 m5 k5, .bool n6, .slice o6 l6 c6, .slice p6 m6 k6]] V fun e w' => e = .returned (.bool mS) ∧ Below V.heap.size V w') := hmS1
        have HMM : Hid (pmayB la rs = mP ∧ (mS = true → ∃ a b : Rat, RatAt X n5 o5 l5 c5 p5 m5 k5 a ∧ RatAt X n6 o6 l6 c6 p6 m6 k6 b ∧ Sz a 4 ∧ Sz b 4 ∧ cmpQ a b ≤ 0)) := ⟨hmP, hmS2⟩
        clear hmP hmS1 hmS2
        go_upto_region 7 with fail
        go_cut [35] (fun s35 wx => ∃ hb, s35 = .bool hb ∧ (hb = false → mP = true ∧ mS = true) ∧ Below Y.heap.size Y wx)
        case first => as_aux_lemma =>
          have fq0 := HCL.out Y HBY.out 0 _ rfl; have fq1 := HCL.out Y HBY.out 1 _ rfl; have fq2 := HCL.out Y HBY.out 2 _ rfl; have fq3 := HCL.out Y HBY.out 3 _ rfl; have fq4 := HCL.out Y HBY.out 4 _ rfl; have fq5 := HCL.out Y HBY.out 5 _ rfl; have fq6 := HCL.out Y HBY.out 6 _ rfl; have fq7 := HCL.out Y HBY.out 7 _ rfl; have fq8 := HCL.out Y HBY.out 8 _ rfl; have fq9 := HCL.out Y HBY.out 9 _ rfl; have fq10 := HCL.out Y HBY.out 10 _ rfl; have fq11 := HCL.out Y HBY.out 11 _ rfl; have fq12 := HCL.out Y HBY.out 12 _ rfl
          rcases bad1_twoH mP with ⟨q, qc⟩ | ⟨q, qc⟩
          · have HQ : Hid (mP = true) := q
            have HBD : Hid (bad1 mP = 0) := qc
            clear q qc
            obtain ⟨sv, hsv⟩ : ∃ s, (!mS) = s := ⟨_, rfl⟩
            have HSV : Hid ((!mS) = sv) := hsv
            go_wp2_with (first
              | (go_at_call 8; refine (HMS.out _ (bnext HBY.out hb1)).mono ?_; rintro e y2 ⟨rfl, hb2'⟩; have hb2 := bnext hb1 hb2'; clear hb2')
              | (go_at_call 6; refine (one4_any ao bo co la ca lb cb lc cc n n4 n5 n6 o4 p4 o5 p5 o6 p6 l4 c4 m4 k4 l5 c5 m5 k5 l6 c6 m6 k6 rs _ (HP0.out.1.later HBY.out) (by omega) HLM.out mP HMM.out.1 0 HBD.out).mono ?_; rintro e y1 ⟨rfl, hb1⟩; clear fq0 fq1 fq2 fq3 fq4 fq5 fq6 fq7 fq8 fq9 fq10 fq11 fq12; have fq7 := HCL.out y1 (bnext HBY.out hb1) 7 _ rfl; have fq8 := HCL.out y1 (bnext HBY.out hb1) 8 _ rfl; have fq9 := HCL.out y1 (bnext HBY.out hb1) 9 _ rfl; have fq10 := HCL.out y1 (bnext HBY.out hb1) 10 _ rfl; have fq11 := HCL.out y1 (bnext HBY.out hb1) 11 _ rfl; have fq12 := HCL.out y1 (bnext HBY.out hb1) 12 _ rfl))
            go_meet
            refine ⟨_, rfl, fun h => ⟨HQ.out, ?_⟩, hb2⟩
            have h2 := HSV.out
            rw [h] at h2
            cases mS
            · cases h2
            · rfl
          · have HBD : Hid (bad1 mP = 50) := qc
            clear q qc
            go_wp2_with (go_at_call 6; refine (one4_any ao bo co la ca lb cb lc cc n n4 n5 n6 o4 p4 o5 p5 o6 p6 l4 c4 m4 k4 l5 c5 m5 k5 l6 c6 m6 k6 rs _ (HP0.out.1.later HBY.out) (by omega) HLM.out mP HMM.out.1 50 HBD.out).mono ?_; rintro e y1 ⟨rfl, hb1⟩)
            go_meet
            exact ⟨true, rfl, fun h => (by cases h), hb1⟩
        case rest => as_aux_lemma =>
          obtain ⟨hb, rfl, hcond, hBz⟩ := hcut
          obtain ⟨Z, hZ⟩ : ∃ Z, Z = wc := ⟨_, rfl⟩
          subst hZ
          have HXZ : Hid (Below X.heap.size X Z ∧ Below w.heap.size w Z) := ⟨bnext HBY.out hBz, bnext HXB.out.2 (bnext HBY.out hBz)⟩
          cases hb
          rotate_left
          · go_wp2
            go_roundw
            case rel => exact ⟨k + 1, by omega, by go_num, HXZ.out.2⟩
            case measure => simp [intOf]; omega
          obtain ⟨qP, qS⟩ := hcond rfl
          clear hcond hBz
          obtain ⟨p, hp⟩ := parg_of_raws HP0.out.1 hla (rv_lim HLM.out)
          rw [HMM.out.1] at hp
          obtain ⟨a, b2, ha, hb2, _, _, hcm⟩ := HMM.out.2 qS
          have hS := HLS.out
          have hsa : Sz a 2 := ha.sz hS.1 hS.2.1
          have hsb : Sz b2 2 := hb2.sz hS.2.2.1 hS.2.2.2
          have HG : Hid (∀ V, Below Z.heap.size Z V → GP V ao la ca 3 p ∧ RatAt V n5 o5 l5 c5 p5 m5 k5 a ∧ RatAt V n6 o6 l6 c6 p6 m6 k6 b2 ∧ TabAt 0 Lib.deBruijn64tab V ∧ Cells V wo.heap.size [.slice ao la ca, .slice bo lb cb, .bool n, .slice co lc cc, .bool n4, .slice o4 l4 c4, .slice p4 m4 k4, .bool n5, .slice o5 l5 c5, .slice p5 m5 k5, .bool n6, .slice o6 l6 c6, .slice p6 m6 k6]) := fun V hV => by
            have h := bnext HXZ.out.1 hV
            obtain ⟨a1, a2, a3⟩ := (hp.later h).good qP
            exact ⟨⟨a1, a2, a3, by omega, by decide⟩, ha.later h, hb2.later h, tab_later HP0.out.2.2.2 h, HCL.out V h⟩
          have HF : Hid ((Lim 3 p ∧ p.length ≤ 11) ∧ (Sz a 2 ∧ Sz b2 2) ∧ cmpQ a b2 ≤ 0) := by
            obtain ⟨a1, a2, a3⟩ := hp.good qP
            have h1 := a1.hlen
            exact ⟨⟨a3, by omega⟩, ⟨hsa, hsb⟩, hcm⟩
          have HVS : Hid ((Sz (vLo p a b2) 1000 ∧ Sz (vHi p a b2) 1000) ∧ cmpQ (vLo p a b2) (vHi p a b2) ≤ 0) := ⟨v_sz hsa hsb HF.out.1.1 HF.out.1.2, v_le p hcm⟩
          clear hp ha hb2 hcm hS hsa hsb qP qS HMM HMS HLM HLS HW0 HP0
          go_upto_region 8 with fail
          go_cut [5, 6] (fun s5 s6 wx => ∃ r5 nX oX lX cX pX mX kX nY oY lY cY pY mY kY, s5 = .pointer (some ⟨r5, 0, none⟩) ∧ s6 = .int .i64 0 ∧ Bx wx r5 [.bool nX, .slice oX lX cX, .slice pX mX kX, .bool nY, .slice oY lY cY, .slice pY mY kY] ∧ RatAt wx nX oX lX cX pX mX kX (vLo p a b2) ∧ RatAt wx nY oY lY cY pY mY kY (vHi p a b2) ∧ Below Z.heap.size Z wx)
          case first => as_aux_lemma =>
            have HC := (HG.out Z (Below.refl _ _)).2.2.2.2
            have fq0 := HC 0 _ rfl; have fq7 := HC 7 _ rfl; have fq8 := HC 8 _ rfl; have fq9 := HC 9 _ rfl; have fq10 := HC 10 _ rfl; have fq11 := HC 11 _ rfl; have fq12 := HC 12 _ rfl
            clear HC
            go_wp2_with (go_at_call 10; refine (evalSpan_good ao la ca p n5 n6 o5 p5 o6 p6 l5 c5 m5 k5 l6 c6 m6 k6 a b2 Z (HG.out Z (Below.refl _ _)).1 (HG.out Z (Below.refl _ _)).2.1 (HG.out Z (Below.refl _ _)).2.2.1 HF.out.2.1.1 HF.out.2.1.2 HF.out.2.2 (HG.out Z (Below.refl _ _)).2.2.2.1).mono ?_; rintro e y1 ⟨nX, oX, lX, cX, pX, mX, kX, nY, oY, lY, cY, pY, mY, kY, rfl, hX, hY, hb⟩; have H1 : Hid (RatAt y1 nX oX lX cX pX mX kX (vLo p a b2) ∧ RatAt y1 nY oY lY cY pY mY kY (vHi p a b2) ∧ Below Z.heap.size Z y1) := ⟨hX, hY, hb⟩; clear hX hY hb)
            go_meet
            have hA : Below y1.heap.size y1 (y1.alloc (.cells #[.bool nX, .slice oX lX cX, .slice pX mX kX, .bool nY, .slice oY lY cY, .slice pY mY kY] 32)) := (Below.refl _ _).alloc (Nat.le_refl _) _
            exact ⟨_, _, _, _, _, _, _, _, _, _, _, _, _, _, _, rfl, rfl, Bx.new y1 [.bool nX, .slice oX lX cX, .slice pX mX kX, .bool nY, .slice oY lY cY, .slice pY mY kY] _, H1.out.1.later hA, H1.out.2.1.later hA, bnext H1.out.2.2 hA⟩
          case rest => as_aux_lemma =>
            obtain ⟨r5, nX, oX, lX, cX, pX, mX, kX, nY, oY, lY, cY, pY, mY, kY, rfl, rfl, hbx, hvx, hvy, hB1⟩ := hcut
            obtain ⟨U, hU⟩ : ∃ U, U = wc := ⟨_, rfl⟩
            subst hU
            have HU : Hid ((∀ V, Below U.heap.size U V → Bx V r5 [.bool nX, .slice oX lX cX, .slice pX mX kX, .bool nY, .slice oY lY cY, .slice pY mY kY] ∧ RatAt V nX oX lX cX pX mX kX (vLo p a b2) ∧ RatAt V nY oY lY cY pY mY kY (vHi p a b2)) ∧ Below Z.heap.size Z U) := ⟨fun V hV => ⟨hbx.later hV hbx.lt, hvx.later hV, hvy.later hV⟩, hB1⟩
            clear hbx hvx hvy hB1
            go_upto_region 9 with fail
            go_cut [51] (fun s51 wx => s51 = .bool false ∧ Below U.heap.size U wx)
            case first => as_aux_lemma =>
              have HC := (HU.out.1 U (Below.refl _ _)).1
              have u0x := HC.1 0 _ rfl; have u1x := HC.1 1 _ rfl; have u2x := HC.1 2 _ rfl; have u3x := HC.1 3 _ rfl; have u4x := HC.1 4 _ rfl; have u5x := HC.1 5 _ rfl
              clear HC
              go_wp2_with (first
                | (go_at_call 8; have HC := HU.out.1 _ hb1; refine (smay_rats nX nY oX pX oY pY lX cX mX kX lY cY mY kY (vLo p a b2) (vHi p a b2) _ HC.2.1 HC.2.2 HVS.out.1.1 HVS.out.1.2 HVS.out.2).mono ?_; clear HC; rintro e y2 ⟨rfl, hb2⟩)
                | (go_at_call 11; refine (num4_any 0 U).mono ?_; rintro e y1 ⟨rfl, hb1⟩; clear u0x u1x u2x u3x u4x u5x; have HC := (HU.out.1 _ hb1).1; have u0x := HC.1 0 _ rfl; have u1x := HC.1 1 _ rfl; have u2x := HC.1 2 _ rfl; have u3x := HC.1 3 _ rfl; have u4x := HC.1 4 _ rfl; have u5x := HC.1 5 _ rfl; clear HC))
              go_meet
              exact ⟨rfl, bnext hb1 hb2⟩
            case rest => as_aux_lemma =>
              obtain ⟨rfl, hB2⟩ := hcut
              obtain ⟨V, hV⟩ : ∃ V, V = wc := ⟨_, rfl⟩
              subst hV
              have HV : Hid (Below U.heap.size U V ∧ Below Z.heap.size Z V) := ⟨hB2, bnext HU.out.2 hB2⟩
              clear hB2
              have HC := (HG.out V HV.out.2).2.2.2.2
              have fq7 := HC 7 _ rfl; have fq8 := HC 8 _ rfl; have fq9 := HC 9 _ rfl
              clear HC
              obtain ⟨r7, hr7⟩ : ∃ r7, r7 = V.heap.size := ⟨_, rfl⟩
              obtain ⟨T, hT9⟩ : ∃ T, T = V.alloc (.cells #[.bool n5, .slice o5 l5 c5, .slice p5 m5 k5] 30) := ⟨_, rfl⟩
              have HT9 : Hid (RV5 T r7 a ∧ Below V.heap.size V T) := by
                have hA : Below V.heap.size V T := by rw [hT9]; exact (Below.refl _ _).alloc (Nat.le_refl _) _
                exact ⟨⟨_, _, _, _, _, _, _, by rw [hT9, hr7]; exact Bx.new _ _ _, (HG.out V HV.out.2).2.1.later hA⟩, hA⟩
              have HR7 : Hid (r7 = V.heap.size) := hr7
              go_upto_region 13 with fail
              rw [← hT9]
              simp only [← hr7]
              clear hr7 hT9 fq7 fq8 fq9
              go_loopw [8] (fun ii wr => ∃ j : Nat, j ≤ 5 ∧ ii = .int .i64 (j : Int) ∧ ∃ x, Hid (MidsQ a b2 x j ∧ RV5 wr r7 x ∧ Below V.heap.size V wr)) (fun ii _ => 5 - (intOf ii).toNat)
              case atStart => exact ⟨0, by omega, rfl, a, mids_start HF.out.2.2, HT9.out.1, HT9.out.2⟩
              case round =>
                obtain ⟨j, hj, rfl, x, HS⟩ := hrel
                by_cases hj5 : j = 5
                · subst hj5
                  go_wp2
                  go_roundw
                  case rel => exact ⟨k + 1, by omega, by go_num, bnext HXZ.out.2 (bnext HV.out.2 HS.out.2.2)⟩
                  case measure => simp [intOf]; omega
                · have gj : (j : Int) < 5 := by omega
                  obtain ⟨nv, ov, lv, cv, pv, mv, kv, hbv, hxr⟩ := HS.out.2.1
                  have hx5 : Sz x 5 := mids_sz HS.out.1 HF.out.2.1.1 HF.out.2.1.2 (by omega)
                  have HX : Hid (RatAt wr nv ov lv cv pv mv kv x ∧ Sz x 5 ∧ Bx wr r7 [.bool nv, .slice ov lv cv, .slice pv mv kv]) := ⟨hxr, hx5, hbv⟩
                  have q0 := hbv.1 0 _ rfl
                  have q1 := hbv.1 1 _ rfl
                  have q2 := hbv.1 2 _ rfl
                  have fq0 := (HG.out wr (bnext HV.out.2 HS.out.2.2)).2.2.2.2 0 _ rfl
                  clear hbv hxr hx5
                  go_wp2_with (first
                    | (go_at_call 18; refine (qmid_any nv n6 ov pv o6 p6 lv cv mv kv l6 c6 m6 k6 x b2 w3 (HX.out.1.later H3.out) (HG.out w3 (bnext HV.out.2 (bnext HS.out.2.2 H3.out))).2.2.1 (HX.out.2.1.mono (by decide)) (HF.out.2.1.2.mono (by decide))).mono ?_; rintro e w4 ⟨n8, o8, l8, c8, p8, m8, k8, rfl, hr8, hb⟩; have H4 : Hid (RatAt w4 n8 o8 l8 c8 p8 m8 k8 ((x + b2) * half2) ∧ Below wr.heap.size wr w4 ∧ Bx w4 r7 [.bool nv, .slice ov lv cv, .slice pv mv kv] ∧ RatAt w4 nv ov lv cv pv mv kv x) := (by have h4 := bnext H3.out hb; exact ⟨hr8, h4, HX.out.2.2.later h4 HX.out.2.2.lt, HX.out.1.later h4⟩); clear hr8 hb q0 q1 q2 fq10 fq11 fq12; have q0 := H4.out.2.2.1.1 0 _ rfl; have q1 := H4.out.2.2.1.1 1 _ rfl; have q2 := H4.out.2.2.1.1 2 _ rfl; have qf := H4.out.2.2.1.2)
                    | (go_at_call 17; have HC := HU.out.1 w2 (bnext HV.out.1 (bnext HS.out.2.2 H2.out.2.1)); refine (phas_one nX nY n9 oX pX oY pY o9 p9 lX cX mX kX lY cY mY kY l9 c9 m9 k9 (vLo p a b2) (vHi p a b2) (evQ p x) w2 HC.2.1 HC.2.2 H2.out.1 HVS.out.1.1 HVS.out.1.2 (ev_long HF.out.1.1 HF.out.1.2 HX.out.2.1).2 true (v_in p HS.out.1.1)).mono ?_; clear HC; rintro e w3 ⟨rfl, hb⟩; have H3 : Hid (Below wr.heap.size wr w3) := bnext H2.out.2.1 hb; clear hb t0x t1x t2x t3x t4x t5x s0 s1 s2; have HC := (HG.out w3 (bnext HV.out.2 (bnext HS.out.2.2 H3.out))).2.2.2.2; have fq10 := HC 10 _ rfl; have fq11 := HC 11 _ rfl; have fq12 := HC 12 _ rfl; clear HC; have HB := HX.out.2.2.later H3.out HX.out.2.2.lt; have q0 := HB.1 0 _ rfl; have q1 := HB.1 1 _ rfl; have q2 := HB.1 2 _ rfl; clear HB)
                    | (go_at_call 11; obtain ⟨Z9, hZ9⟩ : ∃ Z9, Z9 = w1.alloc (.cells #[.bool n9, .slice o9 l9 c9, .slice p9 m9 k9] 30) := ⟨_, rfl⟩; obtain ⟨r9, hr9⟩ : ∃ r9, r9 = w1.heap.size := ⟨_, rfl⟩; have hA9 : Below w1.heap.size w1 Z9 := (by rw [hZ9]; exact (Below.refl _ _).alloc (Nat.le_refl _) _); have hB9 : Bx Z9 r9 [.bool n9, .slice o9 l9 c9, .slice p9 m9 k9] := (by rw [hZ9, hr9]; exact Bx.new _ _ _); rw [← hZ9]; (try simp only [← hr9]); refine (num4_any 0 Z9).mono ?_; rintro e w2 ⟨rfl, hb⟩; have H2 : Hid (RatAt w2 n9 o9 l9 c9 p9 m9 k9 (evQ p x) ∧ Below wr.heap.size wr w2 ∧ Bx w2 r9 [.bool n9, .slice o9 l9 c9, .slice p9 m9 k9]) := ⟨(H1.out.1.later hA9).later hb, bnext (bnext H1.out.2 hA9) hb, hB9.later hb hB9.lt⟩; clear hb hA9 hB9 hZ9 hr9; have HC := (HU.out.1 w2 (bnext HV.out.1 (bnext HS.out.2.2 H2.out.2.1))).1; have t0x := HC.1 0 _ rfl; have t1x := HC.1 1 _ rfl; have t2x := HC.1 2 _ rfl; have t3x := HC.1 3 _ rfl; have t4x := HC.1 4 _ rfl; have t5x := HC.1 5 _ rfl; clear HC; have s0 := H2.out.2.2.1 0 _ rfl; have s1 := H2.out.2.2.1 1 _ rfl; have s2 := H2.out.2.2.1 2 _ rfl)
                    | (go_at_call 9; have HGw := HG.out wr (bnext HV.out.2 HS.out.2.2); refine (geval_gen ao la ca 3 p nv ov pv lv cv mv kv x wr HGw.1 (by decide) HX.out.1 ⟨Nat.le_trans HX.out.2.1.1 (by decide), Nat.le_trans HX.out.2.1.2 (by decide)⟩ (ev_long HF.out.1.1 HF.out.1.2 HX.out.2.1).1 HGw.2.2.2.1).mono ?_; clear HGw; rintro e w1 ⟨n9, o9, l9, c9, p9, m9, k9, rfl, hs9, ho9, hd9, _, hb⟩; have H1 : Hid (RatAt w1 n9 o9 l9 c9 p9 m9 k9 (evQ p x) ∧ Below wr.heap.size wr w1) := ⟨⟨ho9.int hs9, hd9.row⟩, hb⟩; clear hs9 ho9 hd9 hb q0 q1 q2 fq0))
                  go_roundw
                  case rel => exact ⟨j + 1, by omega, by go_num, (x + b2) * half2, mids_step HS.out.1 (cmpQ_le.1 HF.out.2.2), RV5.put ⟨_, _, _, _, _, _, _, H4.out.2.2.1, H4.out.2.2.2⟩ H4.out.1, below_store3 (bnext HS.out.2.2 H4.out.2.1) (by have := HR7.out; omega) _ _ _⟩
                  case measure => simp [intOf]; omega
      · have g2 : ¬ (k : Int) < 15 := by omega
        go_wp2_with (go_at_call 16; refine (wakes4_any _).mono ?_; rintro e w1 ⟨rfl, hb1⟩)
        go_ret
        exact ⟨rfl, bnext hbel hb1⟩
    · have g1 : ¬ (k : Int) < (len : Int) := by omega
      go_wp2_with (go_at_call 16; refine (wakes4_any _).mono ?_; rintro e w1 ⟨rfl, hb1⟩)
      go_ret
      exact ⟨rfl, bnext hbel hb1⟩
end Go.Proofs.YthjkdnlbdhhmbaaGreatDoor
/-
  What is read of a list of pairs of numbers.
-/
namespace Go.Proofs.YthjkdnlbdhhmbaaGreatDoor
open Go.RowKit Go.ChangeShapes Go.WideShapes Go.ChangeAt
set_option linter.unusedVariables false
set_option linter.unusedSimpArgs false
theorem cells_int : Tryz.prog.cellsOf 28 = 2 := by kernel_rfl
theorem cells_bool : Tryz.prog.cellsOf 4 = 1 := by kernel_rfl
theorem cells_nat : Tryz.prog.cellsOf 26 = 1 := by kernel_rfl
theorem cells_u64 : Tryz.prog.cellsOf 60 = 1 := by kernel_rfl
theorem add_off {b off j : Nat} : Addr.add ⟨b, off, none⟩ j = ⟨b, off + j, none⟩ := by
  by_cases h0 : j = 0
  · subst h0; simp [Addr.add]
  · simp [Addr.add, h0]
/-- words, off a reading -/
theorem row_of_trod {H : Type} {enc : TypeId × Value → H} {W : World} {fuel : Nat} {v : Value} {x : DataW H × List MemPlace} (h : DataW.trod enc Tryz.prog W 0 (fun _ => true) true fuel 26 [v] = some x) :
    ∃ ao len cap zs, v = .slice ao len cap ∧ RowAt W .u64 ao len cap zs ∧ Wd 18446744073709551616 zs ∧ cap ≤ 9223372036854775807 := by
  rcases open_ints Tryz.underlying26 Tryz.underlying60 cells_u64 h with ⟨hcs, _⟩ | ⟨a, len, cap, zs, hcs, _, hl, hm, hz, _, hcell, hwz⟩
  · simp at hcs; subst hcs
    exact ⟨none, 0, 0, [], rfl, RowAt.nilRow W .u64, Wd.nil _, by decide⟩
  · simp at hcs; subst hcs
    simp only [if_true] at hz
    refine ⟨some a, len, cap, zs.take len, rfl, ⟨by simp; omega, hl, fun e => (by cases e), ?_⟩, ?_, hm⟩
    · by_cases h0 : len = 0
      · exact Or.inl h0
      · right
        obtain ⟨b, off, spot⟩ := a
        have hs : spot = none := by simpa [Addr.add] using World.cell?_spot (hcell 0 (by omega))
        subst hs
        refine ⟨b, off, rfl, ?_, fun t ht => ?_⟩
        · have := hcell 0 (by omega)
          rw [add_off] at this; exact cell_lt this
        · have := hcell t (by omega)
          rw [add_off] at this
          rw [dig_take ht]; exact this
    · intro z hz'
      have := bounds_u64 (hwz z (List.mem_of_mem_take hz'))
      omega
/-- a sign and words, off a reading -/
theorem int_of_trod {H : Type} {enc : TypeId × Value → H} {W : World} {fuel : Nat} {c0 c1 : Value} {x : DataW H × List MemPlace} (h : DataW.trod enc Tryz.prog W 0 (fun _ => true) true fuel 28 [c0, c1] = some x) :
    ∃ neg ao len cap zs, c0 = .bool neg ∧ c1 = .slice ao len cap ∧ RowAt W .u64 ao len cap zs ∧ Wd 18446744073709551616 zs ∧ cap ≤ 9223372036854775807 := by
  obtain ⟨y0, y1, n, _, _, h0, h1⟩ := trod_struct2 Tryz.underlying28 h
  simp only [cells_bool, cells_nat, List.drop_zero, List.take_succ_cons, List.take_zero, List.drop_succ_cons] at h0 h1
  obtain ⟨neg, hb, _⟩ := DataW.trod_bool Tryz.underlying4 h0
  simp at hb
  obtain ⟨ao, len, cap, zs, hv, hr, hw, hc⟩ := row_of_trod h1
  exact ⟨neg, ao, len, cap, zs, hb, hv, hr, hw, hc⟩
theorem own : ownKnob Tryz.prog.godebug = none := by kernel_rfl
theorem laidOut : laidOutB Tryz.prog = true := by kernel_rfl
end Go.Proofs.YthjkdnlbdhhmbaaGreatDoor
