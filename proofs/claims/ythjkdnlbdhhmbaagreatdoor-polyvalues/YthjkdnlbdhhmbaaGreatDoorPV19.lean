/-
  A pack of walks and facts: JE.
-/
import Derived.Test.YthjkdnlbdhhmbaaGreatDoorPV18
set_option maxRecDepth 100000
set_option maxHeartbeats 40000000
set_option linter.unusedVariables false
set_option linter.unusedSimpArgs false
namespace Go.Proofs.YthjkdnlbdhhmbaaGreatDoor
open Go.RowKit
def heavyB (D L len : Nat) (rs : List (Bool × List Int)) : Bool := decide (D + 1 < len) || rs.any fun r => decide (L < r.2.length)
theorem heavyB_false {D L len : Nat} {rs : List (Bool × List Int)} (h : heavyB D L len rs = false) : len ≤ D + 1 ∧ ∀ r ∈ rs, r.2.length ≤ L := by
 unfold heavyB at h
 rw [Bool.or_eq_false_iff, List.any_eq_false] at h
 refine ⟨by have := of_decide_eq_false h.1; omega, fun r hr => ?_⟩
 have := h.2 r hr
 simpa using this
theorem heavyPoly_any (D L : Nat) (ao : Option Addr) (len cap : Nat) (rs : List (Bool × List Int)) (w : World) (hr : RawsAt w ao len cap rs) (hl : len ≤ 9223372036854775807) (hD : D ≤ 4294967296) (c : Bool) (hc : heavyB D L len rs = c) :
  Calls Tryz.prog 19 #[.slice ao len cap, .int .i64 (D : Int), .int .i64 (L : Int)] w fun e w' => e = .returned (.bool c) ∧ Below w.heap.size w w' := by
 by_cases hd : D + 1 < len
 ·
  obtain rfl : c = true := by rw [← hc]; simp [heavyB, hd]
  have hd' : ((D : Int) + 1 < (len : Int)) := by omega
  clear hd hc
  go_enter Tryz.func19, Tryz.ntmps19
  go_wp2
  go_ret
  exact ⟨rfl, Below.refl _ _⟩
 ·
  have hd' : ¬ ((D : Int) + 1 < (len : Int)) := by omega
  have HC : Hid (heavyB D L len rs = c ∧ len = rs.length ∧ ¬ (D + 1 < len)) := ⟨hc, hr.hlen, hd⟩
  have HR : Hid (RawsAt w ao len cap rs) := hr
  clear hr hc hd
  go_enter Tryz.func19, Tryz.ntmps19
  go_wp2
  go_loopw [7] (fun i wr => ∃ k : Nat, k ≤ len ∧ i = .int .i64 k ∧ Below w.heap.size w wr ∧ ∀ t, (ht : t < rs.length) → t < k → (rs[t]).2.length ≤ L) (fun i _ => len - (intOf i).toNat)
  case atStart => exact ⟨0, Nat.zero_le _, rfl, Below.refl _ _, fun t _ ht => absurd ht (by omega)⟩
  case round =>
   obtain ⟨k, hk, rfl, hbel, hz⟩ := hrel
   have HZ : Hid (∀ t, (ht : t < rs.length) → t < k → (rs[t]).2.length ≤ L) := hz
   clear hz
   by_cases hlt : k < len
   ·
    obtain ⟨b, off, rfl, hat⟩ := (HR.out.later hbel).get (by omega)
    have hkr : k < rs.length := by rw [← HC.out.2.1]; exact hlt
    obtain ⟨ao1, l1, c1, ⟨h0, h1⟩, hrow, hw⟩ := hat k hkr
    have HL : Hid (l1 = (rs[k]).2.length) := hrow.hlen
    obtain ⟨n1, hn1⟩ : ∃ n1, (rs[k]).1 = n1 := ⟨_, rfl⟩
    rw [hn1] at h0
    clear hn1 hat hrow hw
    by_cases hL : L < l1
    ·
     obtain rfl : c = true := by
      rw [← HC.out.1]; unfold heavyB
      refine Bool.or_eq_true_iff.2 (Or.inr (List.any_eq_true.2 ⟨rs[k], List.getElem_mem hkr, ?_⟩))
      exact decide_eq_true (by have := HL.out; omega)
     have hcon : ∀ W', Calls Tryz.prog 20 #[.agg #[.bool n1, .slice ao1 l1 c1], .int .i64 (L : Int)] W' fun e w' => e = .returned (.bool true) ∧ Below W'.heap.size W' w' := fun W' => (long_any n1 ao1 l1 c1 L W').mono fun e w' h => by rw [decide_eq_true (by omega)] at h; exact h
     clear hL
     go_wp2_with (go_at_call 20; refine (hcon _).mono ?_; rintro e w1 ⟨rfl, hb1⟩)
     go_ret
     exact ⟨rfl, bnext hbel hb1⟩
    ·
     have hcon : ∀ W', Calls Tryz.prog 20 #[.agg #[.bool n1, .slice ao1 l1 c1], .int .i64 (L : Int)] W' fun e w' => e = .returned (.bool false) ∧ Below W'.heap.size W' w' := fun W' => (long_any n1 ao1 l1 c1 L W').mono fun e w' h => by rw [decide_eq_false (by omega)] at h; exact h
     have HLL : Hid (¬ L < l1) := hL
     clear hL
     go_wp2_with (go_at_call 20; refine (hcon _).mono ?_; rintro e w1 ⟨rfl, hb1⟩)
     go_roundw
     case rel => exact ⟨k + 1, by omega, by go_num, bnext hbel hb1, fun t ht htk => by
      by_cases e : t = k
      ·
       subst e; have := HL.out; have := HLL.out; omega
      ·
       exact HZ.out t ht (by omega)⟩
     case measure => simp [intOf]; omega
   ·
    obtain rfl : k = len := by omega
    obtain rfl : c = false := by
     rw [← HC.out.1]; unfold heavyB
     rw [Bool.or_eq_false_iff]
     refine ⟨decide_eq_false HC.out.2.2, ?_⟩
     rw [List.any_eq_false]
     intro r hr
     obtain ⟨t, ht, rfl⟩ := List.getElem_of_mem hr
     have := HZ.out t ht (by rw [HC.out.2.1]; exact ht)
     simp; omega
    go_wp2
    go_ret
    exact ⟨rfl, hbel⟩
def pmayB (len : Nat) (rs : List (Bool × List Int)) : Bool := decide (len ≤ 1025) && (rs.all (fun r => mayB r.1 r.2) && (decide (len = 0) || decide ((rs.getD (len - 1) (false, [])).2 ≠ [])))
theorem pmayB_true {len : Nat} {rs : List (Bool × List Int)} (h : pmayB len rs = true) : len ≤ 1025 ∧ (∀ r ∈ rs, mayB r.1 r.2 = true) ∧ (0 < len → (rs.getD (len - 1) (false, [])).2 ≠ []) := by
 simp only [pmayB, Bool.and_eq_true, Bool.or_eq_true, decide_eq_true_eq, List.all_eq_true] at h
 exact ⟨h.1, h.2.1, fun h0 => by rcases h.2.2 with e | e; omega; exact e⟩
theorem pmay_any (ao : Option Addr) (len cap : Nat) (rs : List (Bool × List Int)) (w : World) (hr : RawsAt w ao len cap rs) (hl : len ≤ 4611686018427387904) (hlim : ∀ r ∈ rs, r.2.length ≤ 4611686018427387904) (c : Bool) (hc : pmayB len rs = c) :
  Calls Tryz.prog 22 #[.slice ao len cap] w fun e w' => e = .returned (.bool c) ∧ Below w.heap.size w w' := by
 by_cases hd : 1025 < len
 ·
  obtain rfl : c = false := by rw [← hc]; unfold pmayB; rw [decide_eq_false (by omega)]; rfl
  have hd' : ((1025 : Int) < (len : Int)) := by omega
  clear hd hc
  go_enter Tryz.func22, Tryz.ntmps22
  go_wp2
  go_ret
  exact ⟨rfl, Below.refl _ _⟩
 ·
  have hd' : ¬ ((1025 : Int) < (len : Int)) := by omega
  have HC : Hid (pmayB len rs = c ∧ len = rs.length ∧ ¬ (1025 < len)) := ⟨hc, hr.hlen, hd⟩
  have HR : Hid (RawsAt w ao len cap rs ∧ ∀ r ∈ rs, r.2.length ≤ 4611686018427387904) := ⟨hr, hlim⟩
  clear hr hc hd hlim
  go_enter Tryz.func22, Tryz.ntmps22
  go_wp2
  go_loopw [3] (fun i wr => ∃ k : Nat, k ≤ len ∧ i = .int .i64 k ∧ Below w.heap.size w wr ∧ ∀ t, (ht : t < rs.length) → t < k → mayB (rs[t]).1 (rs[t]).2 = true) (fun i _ => len - (intOf i).toNat)
  case atStart => exact ⟨0, Nat.zero_le _, rfl, Below.refl _ _, fun t _ ht => absurd ht (by omega)⟩
  case round =>
   obtain ⟨k, hk, rfl, hbel, hz⟩ := hrel
   have HZ : Hid (∀ t, (ht : t < rs.length) → t < k → mayB (rs[t]).1 (rs[t]).2 = true) := hz
   clear hz
   by_cases hlt : k < len
   ·
    obtain ⟨b, off, rfl, hat⟩ := (HR.out.1.later hbel).get (by omega)
    have hkr : k < rs.length := by rw [← HC.out.2.1]; exact hlt
    obtain ⟨ao1, l1, c1, ⟨h0, h1⟩, hrow, hw⟩ := hat k hkr
    have hl1 : l1 ≤ 4611686018427387904 := by rw [hrow.hlen]; exact HR.out.2 _ (List.getElem_mem hkr)
    obtain ⟨m, hm⟩ : ∃ m, mayB (rs[k]).1 (rs[k]).2 = m := ⟨_, rfl⟩
    have HM : Hid (mayB (rs[k]).1 (rs[k]).2 = m) := hm
    obtain ⟨n1, hn1⟩ : ∃ n1, (rs[k]).1 = n1 := ⟨_, rfl⟩
    have hcon : Calls Tryz.prog 23 #[.agg #[.bool n1, .slice ao1 l1 c1]] wr fun e w' => e = .returned (.bool m) ∧ Below wr.heap.size wr w' := may_at n1 ao1 l1 c1 _ wr hrow hl1 m (by rw [← hn1]; exact hm)
    rw [hn1] at h0
    have HK : Hid (k < rs.length) := hkr
    clear hn1 hat hrow hw hm hl1
    cases m
    ·
     obtain rfl : c = false := by
      rw [← HC.out.1]; unfold pmayB
      rw [Bool.and_eq_false_iff]; right
      rw [Bool.and_eq_false_iff]; left
      rw [List.all_eq_false]
      exact ⟨rs[k]'HK.out, List.getElem_mem HK.out, by rw [HM.out]; decide⟩
     go_wp2_with (go_at_call 23; refine hcon.mono ?_; rintro e w1 ⟨rfl, hb1⟩)
     go_ret
     exact ⟨rfl, bnext hbel hb1⟩
    ·
     go_wp2_with (go_at_call 23; refine hcon.mono ?_; rintro e w1 ⟨rfl, hb1⟩)
     go_roundw
     case rel => exact ⟨k + 1, by omega, by go_num, bnext hbel hb1, fun t ht htk => by
      by_cases e : t = k
      ·
       subst e; exact HM.out
      ·
       exact HZ.out t ht (by omega)⟩
     case measure => simp [intOf]; omega
   ·
    obtain rfl : k = len := by omega
    have hall : rs.all (fun r => mayB r.1 r.2) = true := by
     rw [List.all_eq_true]
     intro r hr
     obtain ⟨t, ht, rfl⟩ := List.getElem_of_mem hr
     exact HZ.out t ht (by rw [HC.out.2.1]; exact ht)
    have HC2 : Hid ((decide (k = 0) || decide ((rs.getD (k - 1) (false, [])).2 ≠ [])) = c) := by
     show _ = _
     rw [← HC.out.1]; unfold pmayB
     rw [hall, decide_eq_true (by have := HC.out.2.2; omega : k ≤ 1025)]; rfl
    clear hall
    by_cases h0 : k = 0
    ·
     subst h0
     obtain rfl : c = true := by rw [← HC2.out]; simp
     go_wp2
     go_ret
     exact ⟨rfl, hbel⟩
    ·
     have hn0 : ((k : Int) == 0) = false := by simp; omega
     obtain ⟨b, off, rfl, hat⟩ := (HR.out.1.later hbel).get (by omega)
     have hkr : k - 1 < rs.length := by rw [← HC.out.2.1]; omega
     obtain ⟨ao1, l1, c1, ⟨h0', h1'⟩, hrow, hw⟩ := hat (k - 1) hkr
     obtain ⟨n1, hn1⟩ : ∃ n1, (rs[k - 1]).1 = n1 := ⟨_, rfl⟩
     rw [hn1] at h0'
     have hcz : Hid (((l1 : Int) == 0) = !c) := by
      show _ = _
      rw [← HC2.out, decide_eq_false h0, Bool.false_or, List.getD_eq_getElem?_getD, List.getElem?_eq_getElem hkr, Option.getD_some]
      have := hrow.hlen
      by_cases e : (rs[k - 1]).2 = []
      ·
       rw [decide_eq_false (by simpa using e)]; rw [e] at this; subst this; rfl
      ·
       rw [decide_eq_true e]
       have : l1 ≠ 0 := fun e2 => e (List.eq_nil_of_length_eq_zero (by omega))
       simp; omega
     have hidx : (k : Int) - 1 = ((k - 1 : Nat) : Int) := by omega
     have hcon : ∀ W', Calls Tryz.prog 46 #[.agg #[.bool n1, .slice ao1 l1 c1]] W' fun e w' => e = .returned (.bool (!c)) ∧ Below W'.heap.size W' w' := fun W' => rzero_any n1 ao1 l1 c1 W' (!c) hcz.out
     have hk1 : k - 1 < k := by omega
     clear hn1 hat hrow hw hkr h0
     go_wp2_with (go_at_call 46; refine (hcon _).mono ?_; rintro e w1 ⟨rfl, hb1⟩)
     go_ret
     exact ⟨by simp, bnext hbel hb1⟩
theorem eqints_same (ao bo : Option Addr) (len ca cb : Nat) (p : List Int) (w : World) (hx : PolyAt w ao len ca p) (hy : PolyAt w bo len cb p) (hl : len ≤ 4611686018427387904) (hlim : Lim 4611686018427387904 p) :
  Calls Tryz.prog 69 #[.slice ao len ca, .slice bo len cb] w fun e w' => e = .returned (.bool true) ∧ Below w.heap.size w w' := by
 have HR : Hid (PolyAt w ao len ca p ∧ PolyAt w bo len cb p ∧ Lim 4611686018427387904 p) := ⟨hx, hy, hlim⟩
 clear hx hy hlim
 go_enter Tryz.func69, Tryz.ntmps69
 go_wp2
 go_loopw [5] (fun i wr => ∃ k : Nat, k ≤ len ∧ i = .int .i64 k ∧ Below w.heap.size w wr) (fun i _ => len - (intOf i).toNat)
 case atStart => exact ⟨0, Nat.zero_le _, rfl, Below.refl _ _⟩
 case round =>
  obtain ⟨k, hk, rfl, hbel⟩ := hrel
  by_cases hlt : k < len
  ·
   obtain ⟨b, off, rfl, hat⟩ := (HR.out.1.later hbel).get (by omega)
   obtain ⟨b', off', rfl, hat'⟩ := (HR.out.2.1.later hbel).get (by omega)
   obtain ⟨n1, ao1, l1, c1, ⟨h0, h1⟩, hi⟩ := hat k hlt
   obtain ⟨n2, ao2, l2, c2, ⟨g0, g1⟩, hj⟩ := hat' k hlt
   have hl1 : l1 ≤ 4611686018427387904 := by rw [hi.lim]; exact HR.out.2.2 _
   have hcon : ∀ W', Below wr.heap.size wr W' → Calls Tryz.prog 32 #[.agg #[.bool n1, .slice ao1 l1 c1], .agg #[.bool n2, .slice ao2 l2 c2]] W' fun e w' => e = .returned (.bool true) ∧ Below W'.heap.size W' w' := fun W' hW => eqint_at n1 n2 ao1 ao2 l1 c1 l2 c2 _ _ W' (hi.later hW) (hj.later hW) hl1 true (decide_eq_true rfl)
   have hlt' : (k : Int) < (len : Int) := by omega
   have hge' : (0 : Int) ≤ (k : Int) := by omega
   have KS : Hid (∀ w', Below wr.heap.size wr w' → Below wr.heap.size wr w' ∧ w'.cell? ⟨b, off + k * 2, none⟩ = some (.bool n1) ∧ w'.cell? ⟨b, off + k * 2 + 1, none⟩ = some (.slice ao1 l1 c1) ∧ w'.cell? ⟨b', off' + k * 2, none⟩ = some (.bool n2) ∧ w'.cell? ⟨b', off' + k * 2 + 1, none⟩ = some (.slice ao2 l2 c2)) := fun w' hb => ⟨hb, (hb.cell (p := ⟨b, off + k * 2, none⟩) (cell_lt h0)).trans h0, (hb.cell (p := ⟨b, off + k * 2 + 1, none⟩) (cell_lt h1)).trans h1, (hb.cell (p := ⟨b', off' + k * 2, none⟩) (cell_lt g0)).trans g0, (hb.cell (p := ⟨b', off' + k * 2 + 1, none⟩) (cell_lt g1)).trans g1⟩
   clear hat hat' hi hj hl1
   go_wp2
   go_region_held3 (fun w' => Below wr.heap.size wr w' ∧ w'.cell? ⟨b, off + k * 2, none⟩ = some (.bool n1) ∧ w'.cell? ⟨b, off + k * 2 + 1, none⟩ = some (.slice ao1 l1 c1) ∧ w'.cell? ⟨b', off' + k * 2, none⟩ = some (.bool n2) ∧ w'.cell? ⟨b', off' + k * 2 + 1, none⟩ = some (.slice ao2 l2 c2))
    (first | exact KS.out _ (Below.refl _ _).drew | exact KS.out _ (by assumption))
    (first | (go_at_call 32; refine (hcon _ (Below.refl _ _).drew).mono ?_; rintro e w1 ⟨rfl, hb1'⟩; have hb1 : Below wr.heap.size wr w1 := bnext (Below.refl _ _).drew hb1'))
   go_wp2
   go_roundw
   case rel => exact ⟨k + 1, by omega, by go_num, bnext hbel hb1⟩
   case measure => simp [intOf]; omega
  ·
   obtain rfl : k = len := by omega
   go_wp2
   go_ret
   exact ⟨rfl, hbel⟩
theorem isZero_any (neg : Bool) (ao : Option Addr) (len cap : Nat) (w : World) (c : Bool) (hc : ((len : Int) == 0) = c) :
  Calls Tryz.prog 51 #[.agg #[.bool neg, .slice ao len cap]] w fun e w' => e = .returned (.bool c) ∧ Below w.heap.size w w' := by
 go_enter Tryz.func51, Tryz.ntmps51
 go_wp2
 go_ret
 exact ⟨rfl, (Below.refl _ _).alloc (Nat.le_refl _) _⟩
theorem lim_pos {v : Int} (h : v ≠ 0) : lim v ≠ 0 := by
 intro e
 have e2 : mag v.natAbs = [] := List.eq_nil_of_length_eq_zero e
 have := mag_val v.natAbs
 rw [e2] at this
 simp [val] at this
 omega
theorem pcheck_ok (ao : Option Addr) (len cap : Nat) (p : List Int) (w : World) (hp : PolyAt w ao len cap p) (hl : len ≤ 1025) (hL : Lead p) (hlim : Lim 4611686018427387904 p) :
  Calls Tryz.prog 27 #[.slice ao len cap] w fun e w' => e = .returned (.int .i64 0) ∧ Below w.heap.size w w' := by
 have HR : Hid (PolyAt w ao len cap p ∧ Lead p ∧ Lim 4611686018427387904 p) := ⟨hp, hL, hlim⟩
 have HLEN : Hid (len = p.length) := hp.hlen
 clear hp hL hlim
 have hl1 : ¬ ((1025 : Int) < (len : Int)) := by omega
 have main : ∀ (w1 : World), Below w.heap.size w w1 → ∀ k : Nat, k < len → ∃ b off n1 ao1 l1 c1, ao = some ⟨b, off, none⟩ ∧ w1.cell? ⟨b, off + k * 2, none⟩ = some (.bool n1) ∧ w1.cell? ⟨b, off + k * 2 + 1, none⟩ = some (.slice ao1 l1 c1) ∧ IntAt w1 n1 ao1 l1 c1 (dig p k) ∧ l1 ≤ 4611686018427387904 := by
  intro w1 hb k hk
  obtain ⟨b, off, h1, hat⟩ := (HR.out.1.later hb).get (by omega)
  obtain ⟨n1, ao1, l1, c1, ⟨h0, h1'⟩, hi⟩ := hat k hk
  exact ⟨b, off, n1, ao1, l1, c1, h1, h0, h1', hi, by rw [hi.lim]; exact HR.out.2.2 _⟩
 have HM : Hid (∀ (w1 : World), Below w.heap.size w w1 → ∀ k : Nat, k < len → ∃ b off n1 ao1 l1 c1, ao = some ⟨b, off, none⟩ ∧ w1.cell? ⟨b, off + k * 2, none⟩ = some (.bool n1) ∧ w1.cell? ⟨b, off + k * 2 + 1, none⟩ = some (.slice ao1 l1 c1) ∧ IntAt w1 n1 ao1 l1 c1 (dig p k) ∧ l1 ≤ 4611686018427387904) := main
 clear main
 by_cases h0 : len = 0
 ·
  subst h0
  go_enter Tryz.func27, Tryz.ntmps27
  go_wp2
  go_loopw [24] (fun i wr => i = .int .i64 0 ∧ wr = w) (fun i _ => 0)
  case atStart => exact ⟨rfl, rfl⟩
  case round =>
   obtain ⟨rfl, rfl⟩ := hrel
   go_wp2
   go_ret
   exact ⟨rfl, Below.refl _ _⟩
 ·
  obtain ⟨b, off, n1, ao1, l1, c1, rfl, h1, h2, hi, hli⟩ := HM.out w (Below.refl _ _) (len - 1) (by omega)
  have hz : ((l1 : Int) == 0) = false := by
   have h3 := HR.out.2.1 (by rw [← HLEN.out]; omega)
   rw [← HLEN.out] at h3
   have h4 := lim_pos h3
   have h5 := hi.lim
   simp; omega
  have hcz : ∀ W', Calls Tryz.prog 51 #[.agg #[.bool n1, .slice ao1 l1 c1]] W' fun e w' => e = .returned (.bool false) ∧ Below W'.heap.size W' w' := fun W' => isZero_any n1 ao1 l1 c1 W' false hz
  have hidx : (len : Int) - 1 = ((len - 1 : Nat) : Int) := by omega
  have hk1 : len - 1 < len := by omega
  have hpos : (0 : Int) < (len : Int) := by omega
  clear hi hli hz h0
  go_enter Tryz.func27, Tryz.ntmps27
  go_wp2_with (go_at_call 51; refine (hcz _).mono ?_; rintro e w1 ⟨rfl, hb1⟩)
  go_loopw [24] (fun i wr => ∃ k : Nat, k ≤ len ∧ i = .int .i64 k ∧ Below w.heap.size w wr) (fun i _ => len - (intOf i).toNat)
  case atStart => exact ⟨0, Nat.zero_le _, rfl, hb1⟩
  case round =>
   clear h1 h2
   obtain ⟨k, hk, rfl, hbel⟩ := hrel
   by_cases hlt : k < len
   ·
    obtain ⟨b', off', n2, ao2, l2, c2, he, h1, h2, hi, hli⟩ := HM.out wr hbel k hlt
    cases he
    have hA : Below wr.heap.size wr (wr.alloc (.cells #[.bool n2, .slice ao2 l2 c2] 28)) := (Below.refl _ _).alloc (Nat.le_refl _) _
    have hcon : Calls Tryz.prog 52 #[.agg #[.bool n2, .slice ao2 l2 c2]] (wr.alloc (.cells #[.bool n2, .slice ao2 l2 c2] 28)) fun e w' => e = .returned (.int .i64 0) ∧ Below (wr.alloc (.cells #[.bool n2, .slice ao2 l2 c2] 28)).heap.size (wr.alloc (.cells #[.bool n2, .slice ao2 l2 c2] 28)) w' := check_at n2 ao2 l2 c2 _ _ (hi.later hA).row hli 0 hi.may
    clear hi hli
    go_wp2_with (go_at_call 52; refine hcon.mono ?_; rintro e w2 ⟨rfl, hb2⟩)
    go_roundw
    case rel => exact ⟨k + 1, by omega, by go_num, bnext hbel (bnext hA hb2)⟩
    case measure => simp [intOf]; omega
   ·
    obtain rfl : k = len := by omega
    go_wp2
    go_ret
    exact ⟨rfl, hbel⟩
theorem infoInt : (Tryz.prog.info? 28).map (fun i => (i.zero, i.size, i.bytes)) = some (some (.agg #[.bool false, .slice none 0 0]), 2, 32) := by kernel_rfl
theorem zero_of_lim {v : Int} (h : lim v = 0) : v = 0 := by
 rcases Decidable.em (v = 0) with e | e
 ·
  exact e
 ·
  exact absurd h (lim_pos e)
end Go.Proofs.YthjkdnlbdhhmbaaGreatDoor
