/-
  A pack of walks and facts: UM, YM.
-/
import Derived.Test.YtpbkonafojemiaaGreatDoorPK13
import Derived.Test.YtpbkonafojemiaaGreatDoorPK21
import Derived.Test.YtpbkonafojemiaaGreatDoorPK22
import Derived.Test.YtpbkonafojemiaaGreatDoorPK24
import Derived.Test.YtpbkonafojemiaaGreatDoorPK25
import Derived.Test.YtpbkonafojemiaaGreatDoorPK26
set_option maxRecDepth 100000
set_option maxHeartbeats 40000000
set_option linter.unusedVariables false
set_option linter.unusedSimpArgs false
namespace Go.Proofs.YtpbkonafojemiaaGreatDoor
open Go.RowKit
theorem rv_lim {rs : List (Bool × List Int)} {L : Nat} (h : ∀ r ∈ rs, r.2.length ≤ L) (t : Nat) : (rv rs t).2.length ≤ L := by
 by_cases ht : t < rs.length
 ·
  rw [rv_eq ht]; exact h _ (List.getElem_mem ht)
 ·
  unfold rv; rw [List.getD_eq_getElem?_getD, List.getElem?_eq_none (by omega)]; simp
theorem parg_of_raws {w : World} {ao : Option Addr} {len cap : Nat} {rs : List (Bool × List Int)} (hr : RawsAt w ao len cap rs) (hs : len ≤ 11) (hlim : ∀ t, (rv rs t).2.length ≤ 3) : ∃ p, PArg w ao len cap rs (pmayB len rs) p := by
 cases hm : pmayB len rs with
 | false => exact ⟨[], hr, hs, hlim, hm, fun h => by cases h⟩
 | true =>
  obtain ⟨h1, h2, h3⟩ := pmayB_true hm
  obtain ⟨p, hp⟩ := polys_of_raws hr h2
  have hl : ∀ t, t < len → lim (dig p t) = (rv rs t).2.length := fun t ht => by
   obtain ⟨b, off, n1, ao1, l1, c1, e, _, q1, _, hrow, _⟩ := hr.at ht
   obtain ⟨b', off', n2, ao2, l2, c2, e', _, r1, hi⟩ := hp.at ht
   rw [e] at e'
   cases e'
   rw [q1] at r1
   simp only [Option.some.injEq, Value.slice.injEq] at r1
   obtain ⟨_, r2, _⟩ := r1
   rw [← hi.lim, ← hrow.hlen, r2]
  refine ⟨p, hr, hs, hlim, hm, fun _ => ⟨hp, fun h0 => ?_, fun t => ?_⟩⟩
  ·
   intro e
   have h4 := hl (len - 1) (by rw [hp.hlen]; omega)
   rw [← hp.hlen] at h0 e
   rw [e, lim_zero] at h4
   exact h3 h0 (List.eq_nil_of_length_eq_zero h4.symm)
  ·
   by_cases ht : t < len
   ·
    rw [hl t ht]; exact hlim t
   ·
    rw [dig_past (by rw [← hp.hlen]; omega), lim_zero]; omega
theorem ptimes_P (ao bo : Option Addr) (la ca lb cb : Nat) (p s : List Int) (w : World) (hp : PolyAt w ao la ca p) (hs : PolyAt w bo lb cb s) (hla : la ≤ 11) (hlb : lb ≤ 11) (hlp : Lim 3 p) (hls : Lim 3 s) (hLp : Lead p) (hLs : Lead s) :
  Calls Tryz.prog 9 #[.slice ao la ca, .slice bo lb cb] w fun e w' => NewPolyB w w' e (mulP p s) ∧ Lim 10000 (mulP p s) := by
 by_cases h : la = 0 ∨ lb = 0
 ·
  have e : mulP p s = [] := by unfold mulP; rw [if_pos (by rw [← hp.hlen, ← hs.hlen]; exact h)]
  rw [e]
  exact (ptimes_nil ao bo la ca lb cb w h).mono fun _ _ h => ⟨h, fun t => by rw [dig_past (Nat.zero_le _), lim_zero]; omega⟩
 ·
  have e : mulP p s = mulL p s := by unfold mulP; rw [if_neg (by rw [← hp.hlen, ← hs.hlen]; exact h)]
  rw [e]
  exact (ptimes_new ao bo la ca lb cb 3 p s w hp hs (by omega) (by omega) (by omega) (by omega) (by decide) hlp hls hLp hLs).mono fun _ _ ⟨g, N, hg, _, he, hP, hL, hb⟩ => ⟨⟨_, _, _, he, hP, fun a ha => (by cases ha; exact hg), hb⟩, hL.mono (by decide)⟩
theorem poly_two {w : World} {r : Nat} {n1 n2 : Bool} {o1 o2 : Option Addr} {l1 c1 l2 c2 : Nat} {a b : Int} (hc : Cells w r [.bool n1, .slice o1 l1 c1, .bool n2, .slice o2 l2 c2]) (h1 : IntAt w n1 o1 l1 c1 a) (h2 : IntAt w n2 o2 l2 c2 b) : PolyAt w (some ⟨r, 0, none⟩) 2 2 [a, b] := by
 refine ⟨rfl, Nat.le_refl _, fun e => (by cases e), Or.inr ⟨r, 0, rfl, fun t ht => ?_⟩⟩
 obtain rfl | rfl : t = 0 ∨ t = 1 := by omega
 ·
  exact ⟨n1, o1, l1, c1, ⟨hc 0 _ rfl, hc 1 _ rfl⟩, h1⟩
 ·
  exact ⟨n2, o2, l2, c2, ⟨hc 2 _ rfl, hc 3 _ rfl⟩, h2⟩
theorem poly_three {w : World} {r : Nat} {n1 n2 n3 : Bool} {o1 o2 o3 : Option Addr} {l1 c1 l2 c2 l3 c3 : Nat} {a b c : Int} (hc : Cells w r [.bool n1, .slice o1 l1 c1, .bool n2, .slice o2 l2 c2, .bool n3, .slice o3 l3 c3]) (h1 : IntAt w n1 o1 l1 c1 a) (h2 : IntAt w n2 o2 l2 c2 b) (h3 : IntAt w n3 o3 l3 c3 c) : PolyAt w (some ⟨r, 0, none⟩) 3 3 [a, b, c] := by
 refine ⟨rfl, Nat.le_refl _, fun e => (by cases e), Or.inr ⟨r, 0, rfl, fun t ht => ?_⟩⟩
 obtain rfl | rfl | rfl : t = 0 ∨ t = 1 ∨ t = 2 := by omega
 ·
  exact ⟨n1, o1, l1, c1, ⟨hc 0 _ rfl, hc 1 _ rfl⟩, h1⟩
 ·
  exact ⟨n2, o2, l2, c2, ⟨hc 2 _ rfl, hc 3 _ rfl⟩, h2⟩
 ·
  exact ⟨n3, o3, l3, c3, ⟨hc 4 _ rfl, hc 5 _ rfl⟩, h3⟩
theorem lim_ones : Lim 3 [1, 1] ∧ Lead [1, 1] ∧ mulP [1, 1] [1, 1] = [1, 2, 1] ∧ Lim 4611686018427387904 [1, 2, 1] := by
 have h1 : lim 1 ≤ 1 := lim_small 1 (by decide)
 have h2 : lim 2 ≤ 1 := lim_small 2 (by decide)
 refine ⟨fun t => ?_, fun _ => by decide, by decide, fun t => ?_⟩
 ·
  match t with
  | 0 => exact Nat.le_trans h1 (by decide)
  | 1 => exact Nat.le_trans h1 (by decide)
  | t + 2 => rw [dig_past (by simp), lim_zero]; decide
 ·
  match t with
  | 0 => exact Nat.le_trans h1 (by decide)
  | 1 => exact Nat.le_trans h2 (by decide)
  | 2 => exact Nat.le_trans h1 (by decide)
  | t + 3 => rw [dig_past (by simp), lim_zero]; decide
theorem wakes4_any (w : World) : Calls Tryz.prog 13 #[] w fun e w' => e = .returned (.bool true) ∧ Below w.heap.size w w' := by
 go_enter Tryz.func13, Tryz.ntmps13
 go_wp2_with (first
  | (go_at_call 31; refine (eqpoly_of (eqints_same oM (some ⟨x6.heap.size, 0, none⟩) 3 3 3 [1, 2, 1] _ HE.out.1 HE.out.2 (by decide) lim_ones.2.2.2)).mono ?_; rintro e x7 ⟨rfl, hb7⟩)
  | (go_at_call 29; have _t := HQ2; refine (rfrom_any 1 _ (by decide) (by decide)).mono ?_; rintro e x6 ⟨n6, o6, l6, c6, rfl, hs, ho, hb⟩; have hB6 := bnext hB5 hb; have HE : Hid (PolyAt (x6.alloc (.cells #[.bool n4, .slice o4 l4 c4, .bool n5, .slice o5 l5 c5, .bool n6, .slice o6 l6 c6] 28)) oM 3 3 [1, 2, 1] ∧ PolyAt (x6.alloc (.cells #[.bool n4, .slice o4 l4 c4, .bool n5, .slice o5 l5 c5, .bool n6, .slice o6 l6 c6] 28)) (some ⟨x6.heap.size, 0, none⟩) 3 3 [1, 2, 1]) := ⟨(HQ2.out.2.2.later hb).later ((Below.refl _ _).alloc (Nat.le_refl _) _), poly_three (Cells.new x6 #[.bool n4, .slice o4 l4 c4, .bool n5, .slice o5 l5 c5, .bool n6, .slice o6 l6 c6] 28) ((HQ2.out.1.later hb).later ((Below.refl _ _).alloc (Nat.le_refl _) _)) ((HQ2.out.2.1.later hb).later ((Below.refl _ _).alloc (Nat.le_refl _) _)) ((ho.int hs).later ((Below.refl _ _).alloc (Nat.le_refl _) _))⟩; clear HQ2; clear hs ho hb)
  | (go_at_call 29; have _t := HQ1; refine (rfrom_any 2 _ (by decide) (by decide)).mono ?_; rintro e x5 ⟨n5, o5, l5, c5, rfl, hs, ho, hb⟩; have hB5 := bnext hB4 hb; have HQ2 : Hid (IntAt x5 n4 o4 l4 c4 1 ∧ IntAt x5 n5 o5 l5 c5 2 ∧ PolyAt x5 oM 3 3 [1, 2, 1]) := ⟨HQ1.out.1.later hb, ho.int hs, HQ1.out.2.later hb⟩; clear HQ1; clear hs ho hb)
  | (go_at_call 29; have _t := HM2; refine (rfrom_any 1 _ (by decide) (by decide)).mono ?_; rintro e x4 ⟨n4, o4, l4, c4, rfl, hs, ho, hb⟩; have hB4 := bnext hB3 hb; have HQ1 : Hid (IntAt x4 n4 o4 l4 c4 1 ∧ PolyAt x4 oM 3 3 [1, 2, 1]) := ⟨ho.int hs, HM2.out.later hb⟩; clear HM2; clear hs ho hb)
  | (go_at_call 12; refine (num4_any _ _).mono ?_; rintro e y3 ⟨rfl, hb⟩; have HM2 : Hid (PolyAt y3 oM 3 3 [1, 2, 1]) := HM.out.later hb; have hB3 := bnext hB2 hb; clear hb HM)
  | (go_at_call 30; refine (plmul_is _ _ 2 2 2 2 (rsOf [1, 1]) (rsOf [1, 1]) true true [1, 1] [1, 1] _ HA.out HA.out 0 rfl).mono ?_; rintro e x3 ⟨oM, lM, rfl, hans, hb⟩; have hP : PolyAt x3 oM lM lM [1, 2, 1] := (by rcases hans with ⟨_, h⟩ | ⟨h, _⟩; (have := h.poly; rw [lim_ones.2.2.1] at this; exact this); exact absurd h (by decide)); obtain rfl : lM = 3 := hP.hlen; have HM : Hid (PolyAt x3 oM 3 3 [1, 2, 1]) := hP; have hB2 := bnext (bnext hB1 ((Below.refl _ _).alloc (Nat.le_refl _) _)) hb; clear hans hP hb)
  | (go_at_call 29; have _t := H1; refine (rfrom_any 1 _ (by decide) (by decide)).mono ?_; rintro e x2 ⟨n2, o2, l2, c2, rfl, hs, ho, hb⟩; have hB1 := bnext H1.out.2 hb; have HA : Hid (PArg (x2.alloc (.cells #[.bool n1, .slice o1 l1 c1, .bool n2, .slice o2 l2 c2] 28)) (some ⟨x2.heap.size, 0, none⟩) 2 2 (rsOf [1, 1]) true [1, 1]) := parg_of_poly (poly_two (Cells.new x2 #[.bool n1, .slice o1 l1 c1, .bool n2, .slice o2 l2 c2] 28) ((H1.out.1.later hb).later ((Below.refl _ _).alloc (Nat.le_refl _) _)) ((ho.int hs).later ((Below.refl _ _).alloc (Nat.le_refl _) _))) (by decide) lim_ones.2.1 lim_ones.1; clear H1; clear hs ho hb)
  | (go_at_call 29; refine (rfrom_any 1 _ (by decide) (by decide)).mono ?_; rintro e x1 ⟨n1, o1, l1, c1, rfl, hs, ho, hb⟩; have H1 : Hid (IntAt x1 n1 o1 l1 c1 1 ∧ Below w.heap.size w x1) := ⟨ho.int hs, hb⟩; clear hs ho hb))
 go_ret
 exact ⟨rfl, bnext (bnext hB6 ((Below.refl _ _).alloc (Nat.le_refl _) _)) hb7⟩
def Item4 (w : World) (b o : Nat) : Prop := ∃ (ao bo co : Option Addr) (la ca lb cb lc cc : Nat) (n n4 n5 n6 : Bool) (o4 p4 o5 p5 o6 p6 : Option Addr) (l4 c4 m4 k4 l5 c5 m5 k5 l6 c6 m6 k6 : Nat) (rs ts : List (Bool × List Int)) (zs : List Int), (∀ (j : Nat) (u : Value), [.slice ao la ca, .slice bo lb cb, .bool n, .slice co lc cc, .bool n4, .slice o4 l4 c4, .slice p4 m4 k4, .bool n5, .slice o5 l5 c5, .slice p5 m5 k5, .bool n6, .slice o6 l6 c6, .slice p6 m6 k6][j]? = some u → w.cell? ⟨b, o + j, none⟩ = some u) ∧ RawsAt w ao la ca rs ∧ RawsAt w bo lb cb ts ∧ RowAt w .u64 co lc cc zs ∧ Wd 18446744073709551616 zs ∧ ca ≤ 9223372036854775807 ∧ cb ≤ 9223372036854775807
theorem Item4.elim {w : World} {b o : Nat} {P : Prop} (h : Item4 w b o) (k : ∀ (ao bo co : Option Addr) (la ca lb cb lc cc : Nat) (n n4 n5 n6 : Bool) (o4 p4 o5 p5 o6 p6 : Option Addr) (l4 c4 m4 k4 l5 c5 m5 k5 l6 c6 m6 k6 : Nat) (rs ts : List (Bool × List Int)) (zs : List Int), (∀ (j : Nat) (u : Value), [.slice ao la ca, .slice bo lb cb, .bool n, .slice co lc cc, .bool n4, .slice o4 l4 c4, .slice p4 m4 k4, .bool n5, .slice o5 l5 c5, .slice p5 m5 k5, .bool n6, .slice o6 l6 c6, .slice p6 m6 k6][j]? = some u → w.cell? ⟨b, o + j, none⟩ = some u) ∧ RawsAt w ao la ca rs ∧ RawsAt w bo lb cb ts ∧ RowAt w .u64 co lc cc zs ∧ Wd 18446744073709551616 zs ∧ ca ≤ 9223372036854775807 ∧ cb ≤ 9223372036854775807 → P) : P := by
 obtain ⟨ao, bo, co, la, ca, lb, cb, lc, cc, n, n4, n5, n6, o4, p4, o5, p5, o6, p6, l4, c4, m4, k4, l5, c5, m5, k5, l6, c6, m6, k6, rs, ts, zs, h⟩ := h
 exact k ao bo co la ca lb cb lc cc n n4 n5 n6 o4 p4 o5 p5 o6 p6 l4 c4 m4 k4 l5 c5 m5 k5 l6 c6 m6 k6 rs ts zs h
end Go.Proofs.YtpbkonafojemiaaGreatDoor
namespace Go.Proofs.YtpbkonafojemiaaGreatDoor
open Go.RowKit
theorem mulL_lim {A B : Nat} {s : List Int} (hs : Lim B s) : ∀ p : List Int, Lim A p → Lim (p.length * (A + B + 1)) (mulL p s) := by
 intro p
 induction p with
 | nil => intro _ t; simp only [mulL, rep_dig]; rw [lim_zero]; omega
 | cons a p ih =>
  intro hA t
  have h1 := ih (fun t => by have := hA (t + 1); rw [dig_cons] at this; exact this)
  have h2 : lim a ≤ A := by have := hA 0; simpa [dig] using this
  rw [mulL, addTo_dig, map_dig, List.length_cons, Nat.succ_mul]
  have h3 := lim_mul a (dig s t)
  have h4 := hs t
  cases t with
  | zero =>
   have h5 : dig (0 :: mulL p s) 0 = 0 := by simp [dig]
   rw [h5, Int.add_zero]; omega
  | succ t =>
   rw [dig_cons]
   have h5 := lim_add (a * dig s (t + 1)) (dig (mulL p s) t)
   have h6 := h1 t
   omega
theorem mulP_lim {A B N : Nat} {p s : List Int} (hp : Lim A p) (hs : Lim B s) (hN : p.length ≤ N) : Lim (N * (A + B + 1)) (mulP p s) := by
 unfold mulP
 split
 ·
  intro t; rw [dig_past (by simp), lim_zero]; omega
 ·
  exact (mulL_lim hs p hp).mono (Nat.mul_le_mul_right _ hN)
theorem mulP_short {p s : List Int} {a b : Nat} (hp : p.length ≤ a) (hs : s.length ≤ b) : (mulP p s).length ≤ a + b := by
 unfold mulP
 split
 ·
  simp
 ·
  rw [mulL_len _ _ (by omega)]; omega
theorem GP.mk' {w : World} {ao : Option Addr} {l c A : Nat} {p : List Int} (h : PolyAt w ao l c p) (hL : Lead p) (hM : Lim A p) (hs : p.length ≤ 50) (hA : A ≤ 100000) : GP w ao l c A p := ⟨h, hL, hM, by rw [h.hlen]; exact hs, hA⟩
theorem longRat4s_any (na : Bool) (ao po : Option Addr) (la ca lp cp : Nat) (n : Int) (w : World) :
  Calls Tryz.prog 16 #[.agg #[.bool na, .slice ao la ca, .slice po lp cp], .int .i64 n] w fun e w' => ∃ b, e = .returned (.bool b) ∧ (b = false → (la : Int) ≤ n ∧ (lp : Int) ≤ n) ∧ Below w.heap.size w w' := by
 have hA : Below w.heap.size w (w.alloc (.cells #[.bool na, .slice ao la ca, .slice po lp cp] 30)) := (Below.refl _ _).alloc (Nat.le_refl _) _
 have HC := Cells.new w #[.bool na, .slice ao la ca, .slice po lp cp] 30
 obtain ⟨b, hb⟩ : ∃ b, decide (n < (la : Int)) = b := ⟨_, rfl⟩
 have HN : Hid (b = false → (la : Int) ≤ n) := fun e => by rw [e] at hb; have := of_decide_eq_false hb; omega
 have hcon : ∀ X, Calls Tryz.prog 15 #[.agg #[.bool na, .slice ao la ca], .int .i64 n] X fun e w' => e = .returned (.bool b) ∧ Below X.heap.size X w' := fun X => (long_any na ao la ca n X).mono fun e w' h => by rw [hb] at h; exact h
 clear hb
 cases b
 ·
  have HN2 : Hid ((la : Int) ≤ n) := HN.out rfl
  clear HN
  go_enter Tryz.func16, Tryz.ntmps16
  go_wp2_with (go_at_call 15; refine (hcon _).mono ?_; rintro e w1 ⟨rfl, hb1⟩; have q2 := HC.later hb1 (by simp) 2 _ rfl)
  go_ret
  exact ⟨_, rfl, fun h => ⟨HN2.out, by have := of_decide_eq_false h; omega⟩, bnext hA hb1⟩
 ·
  go_enter Tryz.func16, Tryz.ntmps16
  go_wp2_with (go_at_call 15; refine (hcon _).mono ?_; rintro e w1 ⟨rfl, hb1⟩)
  go_ret
  exact ⟨_, rfl, fun h => (by cases h), bnext hA hb1⟩
theorem heavy4s_any (ao bo co : Option Addr) (la ca lb cb lc cc : Nat) (n n4 n5 n6 : Bool) (o4 p4 o5 p5 o6 p6 : Option Addr) (l4 c4 m4 k4 l5 c5 m5 k5 l6 c6 m6 k6 : Nat) (rs ts : List (Bool × List Int)) (w : World) (hp : RawsAt w ao la ca rs) (hs : RawsAt w bo lb cb ts) (hla : la ≤ 9223372036854775807) (hlb : lb ≤ 9223372036854775807) :
  Calls Tryz.prog 4 #[.agg #[.slice ao la ca, .slice bo lb cb, .bool n, .slice co lc cc, .bool n4, .slice o4 l4 c4, .slice p4 m4 k4, .bool n5, .slice o5 l5 c5, .slice p5 m5 k5, .bool n6, .slice o6 l6 c6, .slice p6 m6 k6]] w fun e w' => ∃ hv : Bool, e = .returned (.bool hv) ∧ (hv = false → heavyB 10 3 la rs = false ∧ heavyB 10 3 lb ts = false ∧ lc ≤ 3 ∧ l4 ≤ 2 ∧ m4 ≤ 2) ∧ Below w.heap.size w w' := by
 obtain ⟨W, hW⟩ : ∃ W, W = (w.alloc (.cells #[.slice ao la ca, .slice bo lb cb, .bool n, .slice co lc cc, .bool n4, .slice o4 l4 c4, .slice p4 m4 k4, .bool n5, .slice o5 l5 c5, .slice p5 m5 k5, .bool n6, .slice o6 l6 c6, .slice p6 m6 k6] 34)) := ⟨_, rfl⟩
 have HC : Hid ((∀ W', Below W.heap.size W W' → Cells W' w.heap.size [.slice ao la ca, .slice bo lb cb, .bool n, .slice co lc cc, .bool n4, .slice o4 l4 c4, .slice p4 m4 k4, .bool n5, .slice o5 l5 c5, .slice p5 m5 k5, .bool n6, .slice o6 l6 c6, .slice p6 m6 k6]) ∧ Below w.heap.size w W) := by
  rw [hW]
  exact ⟨fun W' hb => (Cells.new w #[.slice ao la ca, .slice bo lb cb, .bool n, .slice co lc cc, .bool n4, .slice o4 l4 c4, .slice p4 m4 k4, .bool n5, .slice o5 l5 c5, .slice p5 m5 k5, .bool n6, .slice o6 l6 c6, .slice p6 m6 k6] 34).later hb (by simp), (Below.refl _ _).alloc (Nat.le_refl _) _⟩
 obtain ⟨b1, hb1⟩ : ∃ b, heavyB 10 3 la rs = b := ⟨_, rfl⟩
 obtain ⟨b2, hb2⟩ : ∃ b, heavyB 10 3 lb ts = b := ⟨_, rfl⟩
 obtain ⟨b3, hb3⟩ : ∃ b, decide ((3 : Int) < (lc : Int)) = b := ⟨_, rfl⟩
 have HB : Hid (heavyB 10 3 la rs = b1 ∧ heavyB 10 3 lb ts = b2 ∧ decide ((3 : Int) < (lc : Int)) = b3) := ⟨hb1, hb2, hb3⟩
 have h1 : ∀ X, Below W.heap.size W X → Calls Tryz.prog 14 #[.slice ao la ca, .int .i64 10, .int .i64 3] X fun e w' => e = .returned (.bool b1) ∧ Below X.heap.size X w' := fun X hb => heavyPoly_any 10 3 ao la ca rs X ((hp.later HC.out.2).later hb) (by omega) (by decide) b1 hb1
 have h2 : ∀ X, Below W.heap.size W X → Calls Tryz.prog 14 #[.slice bo lb cb, .int .i64 10, .int .i64 3] X fun e w' => e = .returned (.bool b2) ∧ Below X.heap.size X w' := fun X hb => heavyPoly_any 10 3 bo lb cb ts X ((hs.later HC.out.2).later hb) (by omega) (by decide) b2 hb2
 have h3 : ∀ X, Calls Tryz.prog 15 #[.agg #[.bool n, .slice co lc cc], .int .i64 3] X fun e w' => e = .returned (.bool b3) ∧ Below X.heap.size X w' := fun X => (long_any n co lc cc 3 X).mono fun e w' h => by rw [hb3] at h; exact h
 clear hb1 hb2 hb3 hp hs
 cases b1
 ·
  cases b2
  ·
   cases b3
   ·
    have HF : Hid (heavyB 10 3 la rs = false ∧ heavyB 10 3 lb ts = false ∧ lc ≤ 3) := ⟨HB.out.1, HB.out.2.1, by have := of_decide_eq_false HB.out.2.2; omega⟩
    go_enter Tryz.func4, Tryz.ntmps4
    go_wp2_with (first
     | (go_at_call 15; refine (h3 _).mono ?_; rintro e w3 ⟨rfl, hb3'⟩; have hb3 := bnext hb2 hb3'; clear hb3' q2 q3; have q4 := HC.out.1 _ hb3 4 _ rfl; have q5 := HC.out.1 _ hb3 5 _ rfl; have q6 := HC.out.1 _ hb3 6 _ rfl)
     | (go_at_call 14; have _t := hb1; refine (h2 _ hb1).mono ?_; rintro e w2 ⟨rfl, hb2'⟩; have hb2 := bnext hb1 hb2'; clear hb2' q1; have q2 := HC.out.1 _ hb2 2 _ rfl; have q3 := HC.out.1 _ hb2 3 _ rfl)
     | (go_at_call 14; rw [← hW]; refine (h1 _ (Below.refl _ _)).mono ?_; rintro e w1 ⟨rfl, hb1⟩; have q1 := HC.out.1 _ hb1 1 _ rfl)
     | (go_at_call 16; have _t := hb5; refine (longRat4_any _ _ _ _ _ _ _ _ _).mono ?_; rintro e w6 ⟨b6, rfl, hb6'⟩; have hb6 := bnext hb5 hb6'; clear hb6' q10 q11 q12)
     | (go_at_call 16; have _t := hb4; refine (longRat4_any _ _ _ _ _ _ _ _ _).mono ?_; rintro e w5 ⟨b5, rfl, hb5'⟩; have hb5 := bnext hb4 hb5'; clear hb5' q7 q8 q9; have q10 := HC.out.1 _ hb5 10 _ rfl; have q11 := HC.out.1 _ hb5 11 _ rfl; have q12 := HC.out.1 _ hb5 12 _ rfl; cases b5)
     | (go_at_call 16; have _t := hb3; refine (longRat4s_any _ _ _ _ _ _ _ _ _).mono ?_; rintro e w4 ⟨b4, rfl, hs4, hb4'⟩; have hb4 := bnext hb3 hb4'; have HS4 : Hid (b4 = false → l4 ≤ 2 ∧ m4 ≤ 2) := (fun q => by have := hs4 q; omega); clear hb4' hs4 q4 q5 q6; have q7 := HC.out.1 _ hb4 7 _ rfl; have q8 := HC.out.1 _ hb4 8 _ rfl; have q9 := HC.out.1 _ hb4 9 _ rfl; cases b4 <;> first | (have HS5 : Hid (l4 ≤ 2 ∧ m4 ≤ 2) := HS4.out rfl; clear HS4) | clear HS4))
    all_goals go_ret
    all_goals first
     | exact ⟨_, rfl, fun _ => ⟨HF.out.1, HF.out.2.1, HF.out.2.2, HS5.out⟩, bnext HC.out.2 hb6⟩
     | exact ⟨_, rfl, fun _ => ⟨HF.out.1, HF.out.2.1, HF.out.2.2, HS5.out⟩, bnext HC.out.2 hb5⟩
     | exact ⟨_, rfl, fun h => (by cases h), bnext HC.out.2 hb4⟩
     | exact ⟨_, rfl, fun h => (by cases h), bnext HC.out.2 hb5⟩
     | exact ⟨_, rfl, fun h => (by cases h), bnext HC.out.2 hb6⟩
   ·
    go_enter Tryz.func4, Tryz.ntmps4
    go_wp2_with (first
     | (go_at_call 15; refine (h3 _).mono ?_; rintro e w3 ⟨rfl, hb3'⟩; have hb3 := bnext hb2 hb3'; clear hb3' q2 q3; have q4 := HC.out.1 _ hb3 4 _ rfl; have q5 := HC.out.1 _ hb3 5 _ rfl; have q6 := HC.out.1 _ hb3 6 _ rfl)
     | (go_at_call 14; have _t := hb1; refine (h2 _ hb1).mono ?_; rintro e w2 ⟨rfl, hb2'⟩; have hb2 := bnext hb1 hb2'; clear hb2' q1; have q2 := HC.out.1 _ hb2 2 _ rfl; have q3 := HC.out.1 _ hb2 3 _ rfl)
     | (go_at_call 14; rw [← hW]; refine (h1 _ (Below.refl _ _)).mono ?_; rintro e w1 ⟨rfl, hb1⟩; have q1 := HC.out.1 _ hb1 1 _ rfl))
    go_ret
    exact ⟨true, rfl, fun h => (by cases h), bnext HC.out.2 hb3⟩
  ·
   go_enter Tryz.func4, Tryz.ntmps4
   go_wp2_with (first
    | (go_at_call 14; have _t := hb1; refine (h2 _ hb1).mono ?_; rintro e w2 ⟨rfl, hb2'⟩; have hb2 := bnext hb1 hb2'; clear hb2' q1; have q2 := HC.out.1 _ hb2 2 _ rfl; have q3 := HC.out.1 _ hb2 3 _ rfl)
    | (go_at_call 14; rw [← hW]; refine (h1 _ (Below.refl _ _)).mono ?_; rintro e w1 ⟨rfl, hb1⟩; have q1 := HC.out.1 _ hb1 1 _ rfl))
   go_ret
   exact ⟨true, rfl, fun h => (by cases h), bnext HC.out.2 hb2⟩
 ·
  go_enter Tryz.func4, Tryz.ntmps4
  go_wp2_with (first
   | (go_at_call 14; rw [← hW]; refine (h1 _ (Below.refl _ _)).mono ?_; rintro e w1 ⟨rfl, hb1⟩; have q1 := HC.out.1 _ hb1 1 _ rfl))
  go_ret
  exact ⟨true, rfl, fun h => (by cases h), bnext HC.out.2 hb1⟩
def Item5 (w : World) (b o : Nat) : Prop := ∃ (ao bo co : Option Addr) (la ca lb cb lc cc : Nat) (n n4 n5 n6 : Bool) (o4 p4 o5 p5 o6 p6 : Option Addr) (l4 c4 m4 k4 l5 c5 m5 k5 l6 c6 m6 k6 : Nat) (rs ts : List (Bool × List Int)) (zs ds : List Int), (∀ (j : Nat) (u : Value), [.slice ao la ca, .slice bo lb cb, .bool n, .slice co lc cc, .bool n4, .slice o4 l4 c4, .slice p4 m4 k4, .bool n5, .slice o5 l5 c5, .slice p5 m5 k5, .bool n6, .slice o6 l6 c6, .slice p6 m6 k6][j]? = some u → w.cell? ⟨b, o + j, none⟩ = some u) ∧ (RawsAt w ao la ca rs ∧ RawsAt w bo lb cb ts ∧ ca ≤ 9223372036854775807 ∧ cb ≤ 9223372036854775807) ∧ RowAt w .u64 o4 l4 c4 zs ∧ Wd 18446744073709551616 zs ∧ RowAt w .u64 p4 m4 k4 ds ∧ Wd 18446744073709551616 ds
theorem Item5.elim {w : World} {b o : Nat} {P : Prop} (h : Item5 w b o) (k : ∀ (ao bo co : Option Addr) (la ca lb cb lc cc : Nat) (n n4 n5 n6 : Bool) (o4 p4 o5 p5 o6 p6 : Option Addr) (l4 c4 m4 k4 l5 c5 m5 k5 l6 c6 m6 k6 : Nat) (rs ts : List (Bool × List Int)) (zs ds : List Int), (∀ (j : Nat) (u : Value), [.slice ao la ca, .slice bo lb cb, .bool n, .slice co lc cc, .bool n4, .slice o4 l4 c4, .slice p4 m4 k4, .bool n5, .slice o5 l5 c5, .slice p5 m5 k5, .bool n6, .slice o6 l6 c6, .slice p6 m6 k6][j]? = some u → w.cell? ⟨b, o + j, none⟩ = some u) ∧ (RawsAt w ao la ca rs ∧ RawsAt w bo lb cb ts ∧ ca ≤ 9223372036854775807 ∧ cb ≤ 9223372036854775807) ∧ RowAt w .u64 o4 l4 c4 zs ∧ Wd 18446744073709551616 zs ∧ RowAt w .u64 p4 m4 k4 ds ∧ Wd 18446744073709551616 ds → P) : P := by
 obtain ⟨ao, bo, co, la, ca, lb, cb, lc, cc, n, n4, n5, n6, o4, p4, o5, p5, o6, p6, l4, c4, m4, k4, l5, c5, m5, k5, l6, c6, m6, k6, rs, ts, zs, ds, h⟩ := h
 exact k ao bo co la ca lb cb lc cc n n4 n5 n6 o4 p4 o5 p5 o6 p6 l4 c4 m4 k4 l5 c5 m5 k5 l6 c6 m6 k6 rs ts zs ds h
def Items5 (w : World) (lo : Option Addr) (n : Nat) : Prop := ∀ i, i < n → ∃ b off, lo = some ⟨b, off, none⟩ ∧ b < w.heap.size ∧ Item5 w b (off + i * 13)
theorem GP.mono {w : World} {ao : Option Addr} {l c A B : Nat} {p : List Int} (h : GP w ao l c A p) (h1 : A ≤ B) (h2 : B ≤ 100000) : GP w ao l c B p := ⟨h.at', h.lead, h.lims.mono h1, h.short, h2⟩
def RV5 (w : World) (r : Nat) (v : Rat) : Prop := ∃ n o l c p m k, Bx w r [.bool n, .slice o l c, .slice p m k] ∧ RatAt w n o l c p m k v
theorem RV5.lt {w : World} {r : Nat} {v : Rat} (h : RV5 w r v) : r < w.heap.size := by obtain ⟨n, o, l, c, p, m, k, h, _⟩ := h; exact h.lt
theorem RV5.later {w w' : World} {r : Nat} {v : Rat} (h : RV5 w r v) (hb : Below w.heap.size w w') : RV5 w' r v := by
 have hl := h.lt
 obtain ⟨n, o, l, c, p, m, k, h1, h2⟩ := h
 exact ⟨n, o, l, c, p, m, k, h1.later hb hl, h2.later hb⟩
theorem rv5_made {U y : World} {n : Bool} {o p : Option Addr} {l c m k : Nat} {v : Rat} (h : RatAt y n o l c p m k v) (hb : Below U.heap.size U y) : RV5 (y.alloc (.cells #[.bool n, .slice o l c, .slice p m k] 30)) y.heap.size v ∧ U.heap.size ≤ y.heap.size ∧ Below U.heap.size U (y.alloc (.cells #[.bool n, .slice o l c, .slice p m k] 30)) :=
 ⟨⟨n, o, l, c, p, m, k, Bx.new y [.bool n, .slice o l c, .slice p m k] _, h.later ((Below.refl _ _).alloc (Nat.le_refl _) _)⟩, hb.size, below_alloc hb (Nat.le_refl _)⟩
end Go.Proofs.YtpbkonafojemiaaGreatDoor
