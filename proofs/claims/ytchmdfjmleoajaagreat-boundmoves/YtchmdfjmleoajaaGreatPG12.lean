/-
  A pack of walks and facts: JE, JF.
-/
import Derived.Test.YtchmdfjmleoajaaGreatPG10
import Derived.Test.YtchmdfjmleoajaaGreatPG11
set_option maxRecDepth 100000
set_option maxHeartbeats 40000000
set_option linter.unusedVariables false
set_option linter.unusedSimpArgs false
namespace Go.Proofs.YtchmdfjmleoajaaGreat
open Go.RowKit
def heavyB (D L len : Nat) (rs : List (Bool × List Int)) : Bool := decide (D + 1 < len) || rs.any fun r => decide (L < r.2.length)
theorem heavyB_false {D L len : Nat} {rs : List (Bool × List Int)} (h : heavyB D L len rs = false) : len ≤ D + 1 ∧ ∀ r ∈ rs, r.2.length ≤ L := by
 unfold heavyB at h
 rw [Bool.or_eq_false_iff, List.any_eq_false] at h
 refine ⟨by have := of_decide_eq_false h.1; omega, fun r hr => ?_⟩
 have := h.2 r hr
 simpa using this
theorem heavyPoly_any (D L : Nat) (ao : Option Addr) (len cap : Nat) (rs : List (Bool × List Int)) (w : World) (hr : RawsAt w ao len cap rs) (hl : len ≤ 9223372036854775807) (hD : D ≤ 4294967296) (c : Bool) (hc : heavyB D L len rs = c) :
  Calls Tryz.prog 22 #[.slice ao len cap, .int .i64 (D : Int), .int .i64 (L : Int)] w fun e w' => e = .returned (.bool c) ∧ Below w.heap.size w w' := by
 by_cases hd : D + 1 < len
 ·
  obtain rfl : c = true := by rw [← hc]; simp [heavyB, hd]
  have hd' : ((D : Int) + 1 < (len : Int)) := by omega
  clear hd hc
  go_enter Tryz.func22, Tryz.ntmps22
  go_wp2
  go_ret
  exact ⟨rfl, Below.refl _ _⟩
 ·
  have hd' : ¬ ((D : Int) + 1 < (len : Int)) := by omega
  have HC : Hid (heavyB D L len rs = c ∧ len = rs.length ∧ ¬ (D + 1 < len)) := ⟨hc, hr.hlen, hd⟩
  have HR : Hid (RawsAt w ao len cap rs) := hr
  clear hr hc hd
  go_enter Tryz.func22, Tryz.ntmps22
  go_wp2
  go_loopw [7] (fun i wr => ∃ k : Nat, k ≤ len ∧ i = .int .i64 k ∧ Below w.heap.size w wr ∧ ∀ t, (ht : t < rs.length) → t < k → (rs[t]).2.length ≤ L) (fun i _ => len - (intOf i).toNat)
  case atStart => exact ⟨0, Nat.zero_le _, rfl, Below.refl _ _, fun t _ ht => absurd ht (by omega)⟩
  case round =>
   obtain ⟨k, hk, rfl, hbel, hz⟩ := hrel
   have HZ : Hid (∀ t, (ht : t < rs.length) → t < k → (rs[t]).2.length ≤ L) := hz
   clear hz
   by_cases hlt : k < len
   ·
    obtain ⟨b, off, rfl, hat⟩ := (HR.out.later hbel).get (by omega)
    have hkr : k < rs.length := by rw [← HC.out.2.1]; exact hlt
    obtain ⟨ao1, l1, c1, ⟨h0, h1⟩, hrow, hw⟩ := hat k hkr
    have HL : Hid (l1 = (rs[k]).2.length) := hrow.hlen
    obtain ⟨n1, hn1⟩ : ∃ n1, (rs[k]).1 = n1 := ⟨_, rfl⟩
    rw [hn1] at h0
    clear hn1 hat hrow hw
    by_cases hL : L < l1
    ·
     obtain rfl : c = true := by
      rw [← HC.out.1]; unfold heavyB
      refine Bool.or_eq_true_iff.2 (Or.inr (List.any_eq_true.2 ⟨rs[k], List.getElem_mem hkr, ?_⟩))
      exact decide_eq_true (by have := HL.out; omega)
     have hcon : ∀ W', Calls Tryz.prog 23 #[.agg #[.bool n1, .slice ao1 l1 c1], .int .i64 (L : Int)] W' fun e w' => e = .returned (.bool true) ∧ Below W'.heap.size W' w' := fun W' => (long_any n1 ao1 l1 c1 L W').mono fun e w' h => by rw [decide_eq_true (by omega)] at h; exact h
     clear hL
     go_wp2_with (go_at_call 23; refine (hcon _).mono ?_; rintro e w1 ⟨rfl, hb1⟩)
     go_ret
     exact ⟨rfl, bnext hbel hb1⟩
    ·
     have hcon : ∀ W', Calls Tryz.prog 23 #[.agg #[.bool n1, .slice ao1 l1 c1], .int .i64 (L : Int)] W' fun e w' => e = .returned (.bool false) ∧ Below W'.heap.size W' w' := fun W' => (long_any n1 ao1 l1 c1 L W').mono fun e w' h => by rw [decide_eq_false (by omega)] at h; exact h
     have HLL : Hid (¬ L < l1) := hL
     clear hL
     go_wp2_with (go_at_call 23; refine (hcon _).mono ?_; rintro e w1 ⟨rfl, hb1⟩)
     go_roundw
     case rel => exact ⟨k + 1, by omega, by go_num, bnext hbel hb1, fun t ht htk => by
      by_cases e : t = k
      ·
       subst e; have := HL.out; have := HLL.out; omega
      ·
       exact HZ.out t ht (by omega)⟩
     case measure => simp [intOf]; omega
   ·
    obtain rfl : k = len := by omega
    obtain rfl : c = false := by
     rw [← HC.out.1]; unfold heavyB
     rw [Bool.or_eq_false_iff]
     refine ⟨decide_eq_false HC.out.2.2, ?_⟩
     rw [List.any_eq_false]
     intro r hr
     obtain ⟨t, ht, rfl⟩ := List.getElem_of_mem hr
     have := HZ.out t ht (by rw [HC.out.2.1]; exact ht)
     simp; omega
    go_wp2
    go_ret
    exact ⟨rfl, hbel⟩
def pmayB (len : Nat) (rs : List (Bool × List Int)) : Bool := decide (len ≤ 1025) && (rs.all (fun r => mayB r.1 r.2) && (decide (len = 0) || decide ((rs.getD (len - 1) (false, [])).2 ≠ [])))
theorem pmayB_true {len : Nat} {rs : List (Bool × List Int)} (h : pmayB len rs = true) : len ≤ 1025 ∧ (∀ r ∈ rs, mayB r.1 r.2 = true) ∧ (0 < len → (rs.getD (len - 1) (false, [])).2 ≠ []) := by
 simp only [pmayB, Bool.and_eq_true, Bool.or_eq_true, decide_eq_true_eq, List.all_eq_true] at h
 exact ⟨h.1, h.2.1, fun h0 => by rcases h.2.2 with e | e; omega; exact e⟩
theorem pmay_any (ao : Option Addr) (len cap : Nat) (rs : List (Bool × List Int)) (w : World) (hr : RawsAt w ao len cap rs) (hl : len ≤ 4611686018427387904) (hlim : ∀ r ∈ rs, r.2.length ≤ 4611686018427387904) (c : Bool) (hc : pmayB len rs = c) :
  Calls Tryz.prog 5 #[.slice ao len cap] w fun e w' => e = .returned (.bool c) ∧ Below w.heap.size w w' := by
 by_cases hd : 1025 < len
 ·
  obtain rfl : c = false := by rw [← hc]; unfold pmayB; rw [decide_eq_false (by omega)]; rfl
  have hd' : ((1025 : Int) < (len : Int)) := by omega
  clear hd hc
  go_enter Tryz.func5, Tryz.ntmps5
  go_wp2
  go_ret
  exact ⟨rfl, Below.refl _ _⟩
 ·
  have hd' : ¬ ((1025 : Int) < (len : Int)) := by omega
  have HC : Hid (pmayB len rs = c ∧ len = rs.length ∧ ¬ (1025 < len)) := ⟨hc, hr.hlen, hd⟩
  have HR : Hid (RawsAt w ao len cap rs ∧ ∀ r ∈ rs, r.2.length ≤ 4611686018427387904) := ⟨hr, hlim⟩
  clear hr hc hd hlim
  go_enter Tryz.func5, Tryz.ntmps5
  go_wp2
  go_loopw [3] (fun i wr => ∃ k : Nat, k ≤ len ∧ i = .int .i64 k ∧ Below w.heap.size w wr ∧ ∀ t, (ht : t < rs.length) → t < k → mayB (rs[t]).1 (rs[t]).2 = true) (fun i _ => len - (intOf i).toNat)
  case atStart => exact ⟨0, Nat.zero_le _, rfl, Below.refl _ _, fun t _ ht => absurd ht (by omega)⟩
  case round =>
   obtain ⟨k, hk, rfl, hbel, hz⟩ := hrel
   have HZ : Hid (∀ t, (ht : t < rs.length) → t < k → mayB (rs[t]).1 (rs[t]).2 = true) := hz
   clear hz
   by_cases hlt : k < len
   ·
    obtain ⟨b, off, rfl, hat⟩ := (HR.out.1.later hbel).get (by omega)
    have hkr : k < rs.length := by rw [← HC.out.2.1]; exact hlt
    obtain ⟨ao1, l1, c1, ⟨h0, h1⟩, hrow, hw⟩ := hat k hkr
    have hl1 : l1 ≤ 4611686018427387904 := by rw [hrow.hlen]; exact HR.out.2 _ (List.getElem_mem hkr)
    obtain ⟨m, hm⟩ : ∃ m, mayB (rs[k]).1 (rs[k]).2 = m := ⟨_, rfl⟩
    have HM : Hid (mayB (rs[k]).1 (rs[k]).2 = m) := hm
    obtain ⟨n1, hn1⟩ : ∃ n1, (rs[k]).1 = n1 := ⟨_, rfl⟩
    have hcon : Calls Tryz.prog 6 #[.agg #[.bool n1, .slice ao1 l1 c1]] wr fun e w' => e = .returned (.bool m) ∧ Below wr.heap.size wr w' := may_at n1 ao1 l1 c1 _ wr hrow hl1 m (by rw [← hn1]; exact hm)
    rw [hn1] at h0
    have HK : Hid (k < rs.length) := hkr
    clear hn1 hat hrow hw hm hl1
    cases m
    ·
     obtain rfl : c = false := by
      rw [← HC.out.1]; unfold pmayB
      rw [Bool.and_eq_false_iff]; right
      rw [Bool.and_eq_false_iff]; left
      rw [List.all_eq_false]
      exact ⟨rs[k]'HK.out, List.getElem_mem HK.out, by rw [HM.out]; decide⟩
     go_wp2_with (go_at_call 6; refine hcon.mono ?_; rintro e w1 ⟨rfl, hb1⟩)
     go_ret
     exact ⟨rfl, bnext hbel hb1⟩
    ·
     go_wp2_with (go_at_call 6; refine hcon.mono ?_; rintro e w1 ⟨rfl, hb1⟩)
     go_roundw
     case rel => exact ⟨k + 1, by omega, by go_num, bnext hbel hb1, fun t ht htk => by
      by_cases e : t = k
      ·
       subst e; exact HM.out
      ·
       exact HZ.out t ht (by omega)⟩
     case measure => simp [intOf]; omega
   ·
    obtain rfl : k = len := by omega
    have hall : rs.all (fun r => mayB r.1 r.2) = true := by
     rw [List.all_eq_true]
     intro r hr
     obtain ⟨t, ht, rfl⟩ := List.getElem_of_mem hr
     exact HZ.out t ht (by rw [HC.out.2.1]; exact ht)
    have HC2 : Hid ((decide (k = 0) || decide ((rs.getD (k - 1) (false, [])).2 ≠ [])) = c) := by
     show _ = _
     rw [← HC.out.1]; unfold pmayB
     rw [hall, decide_eq_true (by have := HC.out.2.2; omega : k ≤ 1025)]; rfl
    clear hall
    by_cases h0 : k = 0
    ·
     subst h0
     obtain rfl : c = true := by rw [← HC2.out]; simp
     go_wp2
     go_ret
     exact ⟨rfl, hbel⟩
    ·
     have hn0 : ((k : Int) == 0) = false := by simp; omega
     obtain ⟨b, off, rfl, hat⟩ := (HR.out.1.later hbel).get (by omega)
     have hkr : k - 1 < rs.length := by rw [← HC.out.2.1]; omega
     obtain ⟨ao1, l1, c1, ⟨h0', h1'⟩, hrow, hw⟩ := hat (k - 1) hkr
     obtain ⟨n1, hn1⟩ : ∃ n1, (rs[k - 1]).1 = n1 := ⟨_, rfl⟩
     rw [hn1] at h0'
     have hcz : Hid (((l1 : Int) == 0) = !c) := by
      show _ = _
      rw [← HC2.out, decide_eq_false h0, Bool.false_or, List.getD_eq_getElem?_getD, List.getElem?_eq_getElem hkr, Option.getD_some]
      have := hrow.hlen
      by_cases e : (rs[k - 1]).2 = []
      ·
       rw [decide_eq_false (by simpa using e)]; rw [e] at this; subst this; rfl
      ·
       rw [decide_eq_true e]
       have : l1 ≠ 0 := fun e2 => e (List.eq_nil_of_length_eq_zero (by omega))
       simp; omega
     have hidx : (k : Int) - 1 = ((k - 1 : Nat) : Int) := by omega
     have hcon : ∀ W', Calls Tryz.prog 24 #[.agg #[.bool n1, .slice ao1 l1 c1]] W' fun e w' => e = .returned (.bool (!c)) ∧ Below W'.heap.size W' w' := fun W' => rzero_any n1 ao1 l1 c1 W' (!c) hcz.out
     have hk1 : k - 1 < k := by omega
     clear hn1 hat hrow hw hkr h0
     go_wp2_with (go_at_call 24; refine (hcon _).mono ?_; rintro e w1 ⟨rfl, hb1⟩)
     go_ret
     exact ⟨by simp, bnext hbel hb1⟩
theorem eqints_same (ao bo : Option Addr) (len ca cb : Nat) (p : List Int) (w : World) (hx : PolyAt w ao len ca p) (hy : PolyAt w bo len cb p) (hl : len ≤ 4611686018427387904) (hlim : Lim 4611686018427387904 p) :
  Calls Tryz.prog 34 #[.slice ao len ca, .slice bo len cb] w fun e w' => e = .returned (.bool true) ∧ Below w.heap.size w w' := by
 have HR : Hid (PolyAt w ao len ca p ∧ PolyAt w bo len cb p ∧ Lim 4611686018427387904 p) := ⟨hx, hy, hlim⟩
 clear hx hy hlim
 go_enter Tryz.func34, Tryz.ntmps34
 go_wp2
 go_loopw [5] (fun i wr => ∃ k : Nat, k ≤ len ∧ i = .int .i64 k ∧ Below w.heap.size w wr) (fun i _ => len - (intOf i).toNat)
 case atStart => exact ⟨0, Nat.zero_le _, rfl, Below.refl _ _⟩
 case round =>
  obtain ⟨k, hk, rfl, hbel⟩ := hrel
  by_cases hlt : k < len
  ·
   obtain ⟨b, off, rfl, hat⟩ := (HR.out.1.later hbel).get (by omega)
   obtain ⟨b', off', rfl, hat'⟩ := (HR.out.2.1.later hbel).get (by omega)
   obtain ⟨n1, ao1, l1, c1, ⟨h0, h1⟩, hi⟩ := hat k hlt
   obtain ⟨n2, ao2, l2, c2, ⟨g0, g1⟩, hj⟩ := hat' k hlt
   have hl1 : l1 ≤ 4611686018427387904 := by rw [hi.lim]; exact HR.out.2.2 _
   have hcon : ∀ W', Below wr.heap.size wr W' → Calls Tryz.prog 36 #[.agg #[.bool n1, .slice ao1 l1 c1], .agg #[.bool n2, .slice ao2 l2 c2]] W' fun e w' => e = .returned (.bool true) ∧ Below W'.heap.size W' w' := fun W' hW => eqint_at n1 n2 ao1 ao2 l1 c1 l2 c2 _ _ W' (hi.later hW) (hj.later hW) hl1 true (decide_eq_true rfl)
   have hlt' : (k : Int) < (len : Int) := by omega
   have hge' : (0 : Int) ≤ (k : Int) := by omega
   have KS : Hid (∀ w', Below wr.heap.size wr w' → Below wr.heap.size wr w' ∧ w'.cell? ⟨b, off + k * 2, none⟩ = some (.bool n1) ∧ w'.cell? ⟨b, off + k * 2 + 1, none⟩ = some (.slice ao1 l1 c1) ∧ w'.cell? ⟨b', off' + k * 2, none⟩ = some (.bool n2) ∧ w'.cell? ⟨b', off' + k * 2 + 1, none⟩ = some (.slice ao2 l2 c2)) := fun w' hb => ⟨hb, (hb.cell (p := ⟨b, off + k * 2, none⟩) (cell_lt h0)).trans h0, (hb.cell (p := ⟨b, off + k * 2 + 1, none⟩) (cell_lt h1)).trans h1, (hb.cell (p := ⟨b', off' + k * 2, none⟩) (cell_lt g0)).trans g0, (hb.cell (p := ⟨b', off' + k * 2 + 1, none⟩) (cell_lt g1)).trans g1⟩
   clear hat hat' hi hj hl1
   go_wp2
   go_region_held3 (fun w' => Below wr.heap.size wr w' ∧ w'.cell? ⟨b, off + k * 2, none⟩ = some (.bool n1) ∧ w'.cell? ⟨b, off + k * 2 + 1, none⟩ = some (.slice ao1 l1 c1) ∧ w'.cell? ⟨b', off' + k * 2, none⟩ = some (.bool n2) ∧ w'.cell? ⟨b', off' + k * 2 + 1, none⟩ = some (.slice ao2 l2 c2))
    (first | exact KS.out _ (Below.refl _ _).drew | exact KS.out _ (by assumption))
    (first | (go_at_call 36; refine (hcon _ (Below.refl _ _).drew).mono ?_; rintro e w1 ⟨rfl, hb1'⟩; have hb1 : Below wr.heap.size wr w1 := bnext (Below.refl _ _).drew hb1'))
   go_wp2
   go_roundw
   case rel => exact ⟨k + 1, by omega, by go_num, bnext hbel hb1⟩
   case measure => simp [intOf]; omega
  ·
   obtain rfl : k = len := by omega
   go_wp2
   go_ret
   exact ⟨rfl, hbel⟩
end Go.Proofs.YtchmdfjmleoajaaGreat
namespace Go.Proofs.YtchmdfjmleoajaaGreat
open Go.RowKit
theorem isZero_any (neg : Bool) (ao : Option Addr) (len cap : Nat) (w : World) (c : Bool) (hc : ((len : Int) == 0) = c) :
  Calls Tryz.prog 70 #[.agg #[.bool neg, .slice ao len cap]] w fun e w' => e = .returned (.bool c) ∧ Below w.heap.size w w' := by
 go_enter Tryz.func70, Tryz.ntmps70
 go_wp2
 go_ret
 exact ⟨rfl, (Below.refl _ _).alloc (Nat.le_refl _) _⟩
theorem lim_pos {v : Int} (h : v ≠ 0) : lim v ≠ 0 := by
 intro e
 have e2 : mag v.natAbs = [] := List.eq_nil_of_length_eq_zero e
 have := mag_val v.natAbs
 rw [e2] at this
 simp [val] at this
 omega
theorem pcheck_ok (ao : Option Addr) (len cap : Nat) (p : List Int) (w : World) (hp : PolyAt w ao len cap p) (hl : len ≤ 1025) (hL : Lead p) (hlim : Lim 4611686018427387904 p) :
  Calls Tryz.prog 52 #[.slice ao len cap] w fun e w' => e = .returned (.int .i64 0) ∧ Below w.heap.size w w' := by
 have HR : Hid (PolyAt w ao len cap p ∧ Lead p ∧ Lim 4611686018427387904 p) := ⟨hp, hL, hlim⟩
 have HLEN : Hid (len = p.length) := hp.hlen
 clear hp hL hlim
 have hl1 : ¬ ((1025 : Int) < (len : Int)) := by omega
 have main : ∀ (w1 : World), Below w.heap.size w w1 → ∀ k : Nat, k < len → ∃ b off n1 ao1 l1 c1, ao = some ⟨b, off, none⟩ ∧ w1.cell? ⟨b, off + k * 2, none⟩ = some (.bool n1) ∧ w1.cell? ⟨b, off + k * 2 + 1, none⟩ = some (.slice ao1 l1 c1) ∧ IntAt w1 n1 ao1 l1 c1 (dig p k) ∧ l1 ≤ 4611686018427387904 := by
  intro w1 hb k hk
  obtain ⟨b, off, h1, hat⟩ := (HR.out.1.later hb).get (by omega)
  obtain ⟨n1, ao1, l1, c1, ⟨h0, h1'⟩, hi⟩ := hat k hk
  exact ⟨b, off, n1, ao1, l1, c1, h1, h0, h1', hi, by rw [hi.lim]; exact HR.out.2.2 _⟩
 have HM : Hid (∀ (w1 : World), Below w.heap.size w w1 → ∀ k : Nat, k < len → ∃ b off n1 ao1 l1 c1, ao = some ⟨b, off, none⟩ ∧ w1.cell? ⟨b, off + k * 2, none⟩ = some (.bool n1) ∧ w1.cell? ⟨b, off + k * 2 + 1, none⟩ = some (.slice ao1 l1 c1) ∧ IntAt w1 n1 ao1 l1 c1 (dig p k) ∧ l1 ≤ 4611686018427387904) := main
 clear main
 by_cases h0 : len = 0
 ·
  subst h0
  go_enter Tryz.func52, Tryz.ntmps52
  go_wp2
  go_loopw [24] (fun i wr => i = .int .i64 0 ∧ wr = w) (fun i _ => 0)
  case atStart => exact ⟨rfl, rfl⟩
  case round =>
   obtain ⟨rfl, rfl⟩ := hrel
   go_wp2
   go_ret
   exact ⟨rfl, Below.refl _ _⟩
 ·
  obtain ⟨b, off, n1, ao1, l1, c1, rfl, h1, h2, hi, hli⟩ := HM.out w (Below.refl _ _) (len - 1) (by omega)
  have hz : ((l1 : Int) == 0) = false := by
   have h3 := HR.out.2.1 (by rw [← HLEN.out]; omega)
   rw [← HLEN.out] at h3
   have h4 := lim_pos h3
   have h5 := hi.lim
   simp; omega
  have hcz : ∀ W', Calls Tryz.prog 70 #[.agg #[.bool n1, .slice ao1 l1 c1]] W' fun e w' => e = .returned (.bool false) ∧ Below W'.heap.size W' w' := fun W' => isZero_any n1 ao1 l1 c1 W' false hz
  have hidx : (len : Int) - 1 = ((len - 1 : Nat) : Int) := by omega
  have hk1 : len - 1 < len := by omega
  have hpos : (0 : Int) < (len : Int) := by omega
  clear hi hli hz h0
  go_enter Tryz.func52, Tryz.ntmps52
  go_wp2_with (go_at_call 70; refine (hcz _).mono ?_; rintro e w1 ⟨rfl, hb1⟩)
  go_loopw [24] (fun i wr => ∃ k : Nat, k ≤ len ∧ i = .int .i64 k ∧ Below w.heap.size w wr) (fun i _ => len - (intOf i).toNat)
  case atStart => exact ⟨0, Nat.zero_le _, rfl, hb1⟩
  case round =>
   clear h1 h2
   obtain ⟨k, hk, rfl, hbel⟩ := hrel
   by_cases hlt : k < len
   ·
    obtain ⟨b', off', n2, ao2, l2, c2, he, h1, h2, hi, hli⟩ := HM.out wr hbel k hlt
    cases he
    have hA : Below wr.heap.size wr (wr.alloc (.cells #[.bool n2, .slice ao2 l2 c2] 28)) := (Below.refl _ _).alloc (Nat.le_refl _) _
    have hcon : Calls Tryz.prog 46 #[.agg #[.bool n2, .slice ao2 l2 c2]] (wr.alloc (.cells #[.bool n2, .slice ao2 l2 c2] 28)) fun e w' => e = .returned (.int .i64 0) ∧ Below (wr.alloc (.cells #[.bool n2, .slice ao2 l2 c2] 28)).heap.size (wr.alloc (.cells #[.bool n2, .slice ao2 l2 c2] 28)) w' := check_at n2 ao2 l2 c2 _ _ (hi.later hA).row hli 0 hi.may
    clear hi hli
    go_wp2_with (go_at_call 46; refine hcon.mono ?_; rintro e w2 ⟨rfl, hb2⟩)
    go_roundw
    case rel => exact ⟨k + 1, by omega, by go_num, bnext hbel (bnext hA hb2)⟩
    case measure => simp [intOf]; omega
   ·
    obtain rfl : k = len := by omega
    go_wp2
    go_ret
    exact ⟨rfl, hbel⟩
theorem boundCheck_ok (ao : Option Addr) (len cap : Nat) (p : List Int) (w : World) (hp : PolyAt w ao len cap p) (hl : len ≤ 1025) (hL : Lead p) (hlim : Lim 4611686018427387904 p) :
  Calls Tryz.prog 29 #[.slice ao len cap] w fun e w' => e = .returned .nilIface ∧ Below w.heap.size w w' := by
 have hcon := pcheck_ok ao len cap p w hp hl hL hlim
 clear hp hL hlim
 go_enter Tryz.func29, Tryz.ntmps29
 go_wp2_with (go_at_call 52; refine hcon.mono ?_; rintro e w1 ⟨rfl, hb1⟩)
 go_ret
 exact ⟨rfl, hb1⟩
theorem checkMove_ok (ao : Option Addr) (len cap : Nat) (p : List Int) (n : Bool) (co : Option Addr) (l c : Nat) (v : Int) (w : World) (hp : PolyAt w ao len cap p) (hl : len ≤ 1025) (hL : Lead p) (hlim : Lim 4611686018427387904 p) (hv : IntAt w n co l c v) (hlv : l ≤ 4611686018427387904) :
  Calls Tryz.prog 26 #[.slice ao len cap, .agg #[.bool n, .slice co l c]] w fun e w' => e = .returned .nilIface ∧ Below w.heap.size w w' := by
 have hA : Below w.heap.size w (w.alloc (.cells #[.bool n, .slice co l c] 28)) := (Below.refl _ _).alloc (Nat.le_refl _) _
 have hcon := boundCheck_ok ao len cap p _ (hp.later hA) hl hL hlim
 have HV : Hid (IntAt (w.alloc (.cells #[.bool n, .slice co l c] 28)) n co l c v ∧ Boxed (w.alloc (.cells #[.bool n, .slice co l c] 28)) w.heap.size n co l c) := ⟨hv.later hA, by simp [go_sem], by simp [go_sem]⟩
 have hM : Hid ((if mayB n (mag v.natAbs) then 0 else 10 : Int) = 0) := hv.may
 clear hp hL hlim hv
 go_enter Tryz.func26, Tryz.ntmps26
 go_wp2_with (first
  | (go_at_call 29; refine hcon.mono ?_; rintro e w1 ⟨rfl, hb1⟩; obtain ⟨q0, q1⟩ := HV.out.2.later hb1 (by simp))
  | (go_at_call 46; refine (check_at n co l c _ _ (HV.out.1.later hb1).row hlv 0 hM.out).mono ?_; rintro e w2 ⟨rfl, hb2⟩))
 go_ret
 exact ⟨rfl, bnext hA (bnext hb1 hb2)⟩
theorem bdtimes_any (na nb : Bool) (ao bo : Option Addr) (la ca lb cb : Nat) (a b : Int) (w : World) (hx : IntAt w na ao la ca a) (hy : IntAt w nb bo lb cb b) (hl : la ≤ 2147483648) (hl' : lb ≤ 2147483648) :
  Calls Tryz.prog 51 #[.agg #[.bool na, .slice ao la ca], .agg #[.bool nb, .slice bo lb cb]] w fun e w' => NewInt w w' e (a * b) := by
 obtain ⟨W, hT⟩ := Two3.mk' w na nb ao bo la ca lb cb
 have hsz := hT.size
 have hRx := hx.later hT.below
 have hRy := hy.later hT.below
 clear hx hy
 go_enter Tryz.func51, Tryz.ntmps51
 go_wp2_with (first
  | (go_at_call 69; rw [← hT.eq]; refine (bmul_any na nb ao bo la ca lb cb a b _ hRx hRy hl hl').mono ?_; rintro e w1 ⟨n1, ao1, l1, c1, rfl, hsg1, ho1, hb1⟩; have HS : Hid (n1 = sgB (a * b)) := hsg1; clear hsg1; have hs1 := hb1.size; have hbA : Below W.heap.size W (w1.alloc (.cells #[.bool n1, .slice ao1 l1 c1] 28)) := hb1.trans ((Below.refl _ _).alloc hs1 _); obtain ⟨g5, g3, g4⟩ := hT.r.later hbA (by omega)))
 exact bodyPost_ret (v := .agg #[.bool n1, .slice ao1 l1 c1]) (by simp [results, Tryz.results51, go_sem, g3, g4]) rfl
  ⟨_, _, _, _, rfl, HS.out, (((ho1.later ((Below.refl _ _).alloc (Nat.le_refl _) _)).store (by omega) _ _).mono (by omega)), below_store (bnext hT.below hbA) (by omega) _ _⟩
theorem bdplus_any (na nb : Bool) (ao bo : Option Addr) (la ca lb cb : Nat) (a b : Int) (w : World) (hx : IntAt w na ao la ca a) (hy : IntAt w nb bo lb cb b) (hl : la ≤ 2147483648) (hl' : lb ≤ 2147483648) :
  Calls Tryz.prog 50 #[.agg #[.bool na, .slice ao la ca], .agg #[.bool nb, .slice bo lb cb]] w fun e w' => NewInt w w' e (a + b) := by
 obtain ⟨W, hT⟩ := Two3.mk' w na nb ao bo la ca lb cb
 have hsz := hT.size
 have hRx := hx.later hT.below
 have hRy := hy.later hT.below
 clear hx hy
 go_enter Tryz.func50, Tryz.ntmps50
 go_wp2_with (first
  | (go_at_call 68; rw [← hT.eq]; refine (add_any na nb ao bo la ca lb cb a b _ hRx hRy (by omega) (by omega)).mono ?_; rintro e w1 ⟨n1, ao1, l1, c1, rfl, hsg1, ho1, hb1⟩; have HS : Hid (n1 = sgB (a + b)) := hsg1; clear hsg1; have hs1 := hb1.size; have hbA : Below W.heap.size W (w1.alloc (.cells #[.bool n1, .slice ao1 l1 c1] 28)) := hb1.trans ((Below.refl _ _).alloc hs1 _); obtain ⟨g5, g3, g4⟩ := hT.r.later hbA (by omega)))
 exact bodyPost_ret (v := .agg #[.bool n1, .slice ao1 l1 c1]) (by simp [results, Tryz.results50, go_sem, g3, g4]) rfl
  ⟨_, _, _, _, rfl, HS.out, (((ho1.later ((Below.refl _ _).alloc (Nat.le_refl _) _)).store (by omega) _ _).mono (by omega)), below_store (bnext hT.below hbA) (by omega) _ _⟩
end Go.Proofs.YtchmdfjmleoajaaGreat
namespace Go.Proofs.YtchmdfjmleoajaaGreat
open Go.RowKit
theorem infoInt : (Tryz.prog.info? 28).map (fun i => (i.zero, i.size, i.bytes)) = some (some (.agg #[.bool false, .slice none 0 0]), 2, 32) := by kernel_rfl
theorem pblk_of_made {w w' : World} {B n : Nat} {t : TypeId} (h : w'.ownsRow B t 2 (.slice (some ⟨w.heap.size, 0, none⟩) n n) n (madeCells (Value.agg #[.bool false, .slice none 0 0]).cells (n * 2)).toList) : PBlk w' w.heap.size (List.replicate n 0) ∧ w.heap.size < w'.heap.size := by
 obtain ⟨_, h2⟩ := h
 rcases h2 with ⟨h2, _⟩ | ⟨g', cap, cur, hv, hg, hh, hc1, _, hs, ht⟩
 ·
  cases h2
 ·
  simp only [Value.slice.injEq, Option.some.injEq, Addr.mk.injEq] at hv
  obtain ⟨⟨hge, _⟩, _, hce⟩ := hv
  subst hge
  subst hce
  have hcell : ∀ j, j < n * 2 → w'.cell? ⟨w.heap.size, j, none⟩ = some (if j % 2 = 0 then .bool false else .slice none 0 0) := by
   intro j hj
   have e1 : cur.toList[j]? = (madeCells (Value.agg #[.bool false, .slice none 0 0]).cells (n * 2)).toList[j]? := by
    rw [← ht, List.getElem?_take, if_pos hj]
   have e2 : (madeCells (Value.agg #[.bool false, .slice none 0 0]).cells (n * 2)).toList[j]? = some (if j % 2 = 0 then .bool false else .slice none 0 0) := by
    simp only [madeCells, Array.toList_map, List.getElem?_map, Array.toList_range, List.getElem?_range hj, Option.map_some]
    congr 1
    have e3 : (Value.agg #[.bool false, .slice none 0 0]).cells = #[.bool false, .slice none 0 0] := by simp [Value.cells]
    rw [e3]
    have : j % 2 = 0 ∨ j % 2 = 1 := by omega
    rcases this with h | h <;> simp [h]
   rw [e2] at e1
   simp only [World.cell?, hh]
   simpa using e1
  refine ⟨⟨fun j => by simp [World.frozen?, hh], fun t ht => ?_⟩, heap_lt hh⟩
  have ht' : t < n := by simpa using ht
  rw [rep_dig]
  refine ⟨false, none, 0, 0, ⟨by rw [hcell _ (by omega), if_pos (by omega)], by rw [hcell _ (by omega), if_neg (by omega)]⟩, rfl, RowAt.nilRow _ _⟩
def CpSt (p : List Int) (k : Nat) (l : List Int) : Prop := l.length = p.length ∧ ∀ t, t < p.length → dig l t = if t < k then dig p t else 0
theorem CpSt.start (p : List Int) : CpSt p 0 (List.replicate p.length 0) := ⟨by simp, fun t ht => by rw [rep_dig, if_neg (by omega)]⟩
theorem CpSt.step {p l : List Int} {k : Nat} (h : CpSt p k l) (hk : k < p.length) : CpSt p (k + 1) (l.set k (dig p k)) := by
 refine ⟨by simpa using h.1, fun t ht => ?_⟩
 rw [pdig_set _ _ _ _ (by rw [h.1]; exact ht)]
 by_cases e : t = k
 ·
  subst e; rw [if_pos rfl, if_pos (by omega)]
 ·
  rw [if_neg e, h.2 t ht]
  by_cases e2 : t < k
  ·
   rw [if_pos e2, if_pos (by omega)]
  ·
   rw [if_neg e2, if_neg (by omega)]
theorem CpSt.skip {p l : List Int} {k : Nat} (h : CpSt p k l) (hk : k < p.length) (h0 : dig p k = 0) : CpSt p (k + 1) l := by
 refine ⟨h.1, fun t ht => ?_⟩
 rw [h.2 t ht]
 by_cases e : t = k
 ·
  subst e; rw [if_neg (by omega), if_pos (by omega), h0]
 ·
  by_cases e2 : t < k
  ·
   rw [if_pos e2, if_pos (by omega)]
  ·
   rw [if_neg e2, if_neg (by omega)]
theorem CpSt.done {p l : List Int} (h : CpSt p p.length l) : l = p := dig_ext h.1 fun t ht => by rw [h.1] at ht; rw [h.2 t ht, if_pos ht]
def NewPB (w w' : World) (e : Ending) (p : List Int) : Prop :=
 (p.length = 0 ∧ e = .returned (.slice none 0 0) ∧ Below w.heap.size w w') ∨ (0 < p.length ∧ ∃ g, e = .returned (.slice (some ⟨g, 0, none⟩) p.length p.length) ∧ PBlk w' g p ∧ w.heap.size ≤ g ∧ g < w'.heap.size ∧ Below w.heap.size w w')
theorem NewPB.poly {w w' : World} {e : Ending} {p : List Int} (h : NewPB w w' e p) : NewPoly w w' e p := by
 rcases h with ⟨h0, he, hb⟩ | ⟨h0, g, he, hp, _, _, hb⟩
 ·
  obtain rfl : p = [] := List.eq_nil_of_length_eq_zero h0
  exact ⟨_, _, _, he, PolyAt.nilPoly _, hb⟩
 ·
  exact ⟨_, _, _, he, hp.poly rfl, hb⟩
theorem zero_of_lim {v : Int} (h : lim v = 0) : v = 0 := by
 rcases Decidable.em (v = 0) with e | e
 ·
  exact e
 ·
  exact absurd h (lim_pos e)
theorem copied_any (ao : Option Addr) (len cap : Nat) (p : List Int) (w : World) (hp : PolyAt w ao len cap p) (hl : len ≤ 1048576) (hlim : Lim 4294967296 p) :
  Calls Tryz.prog 48 #[.slice ao len cap] w fun e w' => NewPB w w' e p := by
 have HR : Hid (PolyAt w ao len cap p ∧ Lim 4294967296 p) := ⟨hp, hlim⟩
 have HLEN : Hid (len = p.length) := hp.hlen
 clear hp hlim
 by_cases h0 : len = 0
 ·
  subst h0
  go_enter Tryz.func48, Tryz.ntmps48
  go_wp2
  go_ret
  exact Or.inl ⟨HLEN.out.symm, rfl, Below.refl _ _⟩
 ·
  have hn0 : ((len : Int) == 0) = false := by simp; omega
  obtain ⟨i0, hi, hz0, hz1, hz2⟩ := info_parts infoInt
  have b1 : Hid (i0.bytes * len ≤ 281474976710656) := by show _ ≤ _; rw [hz2]; omega
  have b2 : Hid (len ≤ maxLen) := by show _ ≤ _; unfold maxLen; omega
  have HP : Hid (0 < len) := by show 0 < _; omega
  clear h0
  go_enter Tryz.func48, Tryz.ntmps48
  go_wp2_with (at_make; refine wpList_make_full _ rfl (.tmp 10) (.tmp 10) 24 rfl w.heap.size 28 i0 (.agg #[.bool false, .slice none 0 0]) 2 Tryz.underlying24 hi hz0 hz1 .i64 .i64 _ _ len rfl rfl rfl rfl b1.out b2.out (Nat.le_refl _) ?_; intro w1 hown1 hgrow1)
  have HM : Hid (PBlk w1 w.heap.size (List.replicate len 0) ∧ w.heap.size < w1.heap.size ∧ Below w.heap.size w w1) := ⟨(pblk_of_made hown1).1, (pblk_of_made hown1).2, grown_below hgrow1⟩
  clear hown1 hgrow1
  go_loopw [14] (fun i wr => ∃ (k : Nat) (l : List Int), k ≤ len ∧ i = .int .i64 k ∧ Below w.heap.size w wr ∧ w.heap.size < wr.heap.size ∧ PBlk wr w.heap.size l ∧ CpSt p k l) (fun i _ => len - (intOf i).toNat)
  case atStart => exact ⟨0, _, Nat.zero_le _, rfl, HM.out.2.2, HM.out.2.1, HM.out.1, by rw [HLEN.out]; exact CpSt.start p⟩
  case round =>
   obtain ⟨k, l, hk, rfl, hbel, hgl, hPB, hst⟩ := hrel
   have HS : Hid (PBlk wr w.heap.size l ∧ CpSt p k l ∧ Below w.heap.size w wr) := ⟨hPB, hst, hbel⟩
   by_cases hlt : k < len
   ·
    obtain ⟨b, off, rfl, hat⟩ := (HR.out.1.later hbel).get (by omega)
    obtain ⟨n1, ao1, l1, c1, ⟨h1, h2⟩, hint⟩ := hat k hlt
    have hl1 : l1 ≤ 4294967296 := by rw [hint.lim]; exact HR.out.2 _
    obtain ⟨n0, a0, l0, c0, ⟨e0, e1⟩, _⟩ := hPB.coef k (by rw [hst.1, ← HLEN.out]; exact hlt)
    have hfz := hPB.soft
    have hA : Below wr.heap.size wr (wr.alloc (.cells #[.bool n1, .slice ao1 l1 c1] 28)) := (Below.refl _ _).alloc (Nat.le_refl _) _
    have HI : Hid (IntAt wr n1 ao1 l1 c1 (dig p k)) := hint
    have hlen' : len = len := rfl
    clear hat hint hPB hst hbel
    by_cases hz : l1 = 0
    ·
     subst hz
     have hd0 : Hid (dig p k = 0) := zero_of_lim HI.out.lim.symm
     go_wp2
     go_roundw
     case rel => exact ⟨k + 1, l, by omega, by go_num, bnext HS.out.2.2 hA, Nat.lt_of_lt_of_le hgl hA.size, HS.out.1.later hA hgl, HS.out.2.1.skip (by rw [← HLEN.out]; exact hlt) hd0.out⟩
     case measure => simp [intOf]; omega
    ·
     have hz' : (0 : Int) < (l1 : Int) := by omega
     obtain ⟨W, hW⟩ : ∃ W, W = wr.alloc (.cells #[.bool n1, .slice ao1 l1 c1] 28) := ⟨_, rfl⟩
     have HW : Hid (Below wr.heap.size wr W ∧ Boxed W wr.heap.size n1 ao1 l1 c1 ∧ wr.heap.size < W.heap.size) := by rw [hW]; exact ⟨hA, ⟨by simp [go_sem], by simp [go_sem]⟩, by simp⟩
     have hcon : ∀ W', Below W.heap.size W W' → Calls Tryz.prog 67 #[.slice ao1 l1 c1] W' fun e w' => NewRow W' w' e (mag (dig p k).natAbs) := fun W' hb => clone_row ao1 l1 c1 _ W' ((HI.out.later HW.out.1).later hb).row (by omega) hl1
     have KS : Hid (∀ w', Below W.heap.size W w' → w'.cell? ⟨wr.heap.size, 0, none⟩ = some (.bool n1) ∧ w'.cell? ⟨wr.heap.size, 1, none⟩ = some (.slice ao1 l1 c1)) := fun w' hb => HW.out.2.1.later hb HW.out.2.2
     have hne : wr.heap.size ≠ w.heap.size := by omega
     have K2 : Hid (∀ (w' : World) (j : Nat) (x : Value), (w'.cell? ⟨wr.heap.size, 0, none⟩ = some (.bool n1) ∧ w'.cell? ⟨wr.heap.size, 1, none⟩ = some (.slice ao1 l1 c1)) → ((w'.setCell ⟨w.heap.size, j, none⟩ x).cell? ⟨wr.heap.size, 0, none⟩ = some (.bool n1) ∧ (w'.setCell ⟨w.heap.size, j, none⟩ x).cell? ⟨wr.heap.size, 1, none⟩ = some (.slice ao1 l1 c1))) := fun w' j x h => ⟨by rw [setCell_ne (by rintro ⟨h, _⟩; exact hne h)]; exact h.1, by rw [setCell_ne (by rintro ⟨h, _⟩; exact hne h)]; exact h.2⟩
     have HPW : Hid (PBlk W w.heap.size l) := HS.out.1.later HW.out.1 hgl
     have hkl : Hid (k < l.length) := by show k < _; rw [HS.out.2.1.1, ← HLEN.out]; exact hlt
     clear e0 e1 hfz
     go_wp2
     rw [← hW]
     clear hW
     go_region_held3 (fun w' => w'.cell? ⟨wr.heap.size, 0, none⟩ = some (.bool n1) ∧ w'.cell? ⟨wr.heap.size, 1, none⟩ = some (.slice ao1 l1 c1))
      (first
       | exact KS.out _ (Below.refl _ _).drew
       | exact KS.out _ (by assumption)
       | exact K2.out _ _ _ (K2.out _ _ _ (KS.out _ (by assumption)))
       | exact K2.out _ _ _ (KS.out _ (by assumption)))
      (first
       | (go_at_call 67; refine (hcon _ (Below.refl _ _).drew).mono ?_; rintro e w2 ⟨ao2, l2, c2, rfl, ho2, hb2'⟩; have hb2 : Below W.heap.size W w2 := bnext (Below.refl _ _).drew hb2'; have HO : Hid (IntAt w2 n1 ao2 l2 c2 (dig p k)) := ⟨HI.out.sg, ho2.row⟩; have HP2 := HPW.out.later hb2 (Nat.lt_of_lt_of_le hgl HW.out.1.size); obtain ⟨n0', a0', l0', c0', ⟨e0, e1⟩, _⟩ := HP2.coef k hkl.out; have hfz := HP2.soft; have HPH : Hid (PBlk w2 w.heap.size l) := HP2; clear HP2 ho2))
     go_wp2
     go_roundw
     case rel => exact ⟨k + 1, l.set k (dig p k), by omega, by go_num, ((bnext HS.out.2.2 (bnext HW.out.1 hb2)).setCell (p := ⟨w.heap.size, k * 2, none⟩) (Nat.le_refl _) _).setCell (p := ⟨w.heap.size, k * 2 + 1, none⟩) (Nat.le_refl _) _, by (have := hb2.size; have := HW.out.1.size; simp; omega), HPH.out.put hkl.out HO.out, HS.out.2.1.step (by rw [← HLEN.out]; exact hlt)⟩
     case measure => simp [intOf]; omega
   ·
    obtain rfl : k = len := by omega
    have HE : Hid (l = p) := CpSt.done (by have := HS.out.2.1; rw [HLEN.out] at this; exact this)
    go_wp2
    go_ret
    refine Or.inr ⟨by rw [← HLEN.out]; exact HP.out, w.heap.size, by show _ = _; rw [← HLEN.out]; rfl, ?_, Nat.le_refl _, hgl, hbel⟩
    have := HS.out.1; rw [HE.out] at this; exact this
end Go.Proofs.YtchmdfjmleoajaaGreat
namespace Go.Proofs.YtchmdfjmleoajaaGreat
open Go.RowKit
theorem cmpI_nil {v : Int} (h : cmpI v 0 = 0) : v = 0 := by
 unfold cmpI at h; split at h
 ·
  cases h
 ·
  split at h
  ·
   cases h
  ·
   omega
theorem shifted_any (ao : Option Addr) (len cap : Nat) (p : List Int) (n : Bool) (co : Option Addr) (lc cc : Nat) (c : Int) (w : World) (hp : PolyAt w ao len cap p) (hl : len ≤ 1048576) (hv : IntAt w n co lc cc c) (hlim : ShLim 1000000000 c p) :
  Calls Tryz.prog 28 #[.slice ao len cap, .agg #[.bool n, .slice co lc cc]] w fun e w' => NewPB w w' e (sh c p) := by
 have hlc : lc ≤ 1000000000 := by rw [hv.lim]; exact hlim.1
 obtain ⟨W, hW⟩ : ∃ W, W = w.alloc (.cells #[.bool n, .slice co lc cc] 28) := ⟨_, rfl⟩
 have HW : Hid (Below w.heap.size w W ∧ Boxed W w.heap.size n co lc cc ∧ w.heap.size < W.heap.size) := by rw [hW]; exact ⟨(Below.refl _ _).alloc (Nat.le_refl _) _, ⟨by simp [go_sem], by simp [go_sem]⟩, by simp⟩
 have hcop := copied_any ao len cap p W (hp.later HW.out.1) hl (hlim.2.1.mono (by decide))
 have HR : Hid (IntAt W n co lc cc c ∧ ShLim 1000000000 c p ∧ len = p.length) := ⟨hv.later HW.out.1, hlim, hp.hlen⟩
 have hsl : (sh c p).length = len := by rw [sh_len, ← hp.hlen]
 have HSL : Hid ((sh c p).length = len) := hsl
 clear hp hv hlim hsl
 by_cases h0 : len = 0
 ·
  subst h0
  have hpe : Hid (sh c p = [] ∧ p.length = 0) := ⟨List.eq_nil_of_length_eq_zero HSL.out, HR.out.2.2.symm⟩
  cases hc : decide (c = 0)
  ·
   have hc0 : c ≠ 0 := by simpa using hc
   obtain ⟨cs, hcs⟩ : ∃ cs, cmpI c 0 = cs := ⟨_, rfl⟩
   have hcs1 : (cs == 0) = false := by
    rw [← hcs]; simp; intro e; exact hc0 (cmpI_nil e)
   have HCS : Hid (cmpI c 0 = cs) := hcs
   clear hcs hc hc0
   go_enter Tryz.func28, Tryz.ntmps28
   go_wp2_with (first
    | (go_at_call 48; rw [← hW]; clear hW; refine hcop.mono ?_; intro e w1 hN; rcases hN with ⟨_, rfl, hb1⟩ | ⟨hpos, _⟩; rotate_left 1; exact absurd hpos (by have := hpe.out.2; omega); obtain ⟨q0, q1⟩ := HW.out.2.1.later hb1 HW.out.2.2)
    | (go_at_call 49; refine (bsign_any n co lc cc c _ (HR.out.1.later hb1) (by omega) cs HCS.out).mono ?_; rintro e w2 ⟨rfl, hb2⟩))
   go_loopw [6] (fun i wr => i = .int .i64 (-2) ∧ wr = w2) (fun i _ => 0)
   case atStart => exact ⟨rfl, rfl⟩
   case round =>
    obtain ⟨rfl, rfl⟩ := hrel
    go_wp2
    go_ret
    exact Or.inl ⟨by rw [hpe.out.1]; rfl, rfl, bnext HW.out.1 (bnext hb1 hb2)⟩
  ·
   have hc0 : Hid (cmpI c 0 = 0) := cmpI_eq (by simpa using hc)
   clear hc
   go_enter Tryz.func28, Tryz.ntmps28
   go_wp2_with (first
    | (go_at_call 48; rw [← hW]; clear hW; refine hcop.mono ?_; intro e w1 hN; rcases hN with ⟨_, rfl, hb1⟩ | ⟨hpos, _⟩; rotate_left 1; exact absurd hpos (by have := hpe.out.2; omega); obtain ⟨q0, q1⟩ := HW.out.2.1.later hb1 HW.out.2.2)
    | (go_at_call 49; refine (bsign_any n co lc cc c _ (HR.out.1.later hb1) (by omega) 0 hc0.out).mono ?_; rintro e w2 ⟨rfl, hb2⟩))
   go_ret
   exact Or.inl ⟨by rw [hpe.out.1]; rfl, rfl, bnext HW.out.1 (bnext hb1 hb2)⟩
 ·
  have hcop2 : Calls Tryz.prog 48 #[.slice ao len cap] W fun e w' => ∃ g, e = .returned (.slice (some ⟨g, 0, none⟩) len len) ∧ PBlk w' g p ∧ W.heap.size ≤ g ∧ g < w'.heap.size ∧ Below W.heap.size W w' := by
   refine hcop.mono fun e w1 hN => ?_
   rcases hN with ⟨hz, _⟩ | ⟨_, g, he, hrest⟩
   ·
    exact absurd hz (by have := HR.out.2.2; omega)
   ·
    exact ⟨g, by rw [HR.out.2.2]; exact he, hrest⟩
  have HP : Hid (0 < len) := by show 0 < _; omega
  clear hcop
  cases hc : decide (c = 0)
  ·
   have hc0 : c ≠ 0 := by simpa using hc
   obtain ⟨cs, hcs⟩ : ∃ cs, cmpI c 0 = cs := ⟨_, rfl⟩
   have hcs1 : (cs == 0) = false := by
    rw [← hcs]; simp; intro e; exact hc0 (cmpI_nil e)
   have HCS : Hid (cmpI c 0 = cs) := hcs
   clear hcs hc hc0
   go_enter Tryz.func28, Tryz.ntmps28
   go_wp2_with (first
    | (go_at_call 48; rw [← hW]; clear hW; refine hcop2.mono ?_; rintro e w1 ⟨g, rfl, hPB, hg1, hg2, hb1⟩; have HPB : Hid (PBlk w1 g p ∧ W.heap.size ≤ g) := ⟨hPB, hg1⟩; clear hPB hg1; obtain ⟨q0, q1⟩ := HW.out.2.1.later hb1 HW.out.2.2)
    | (go_at_call 49; refine (bsign_any n co lc cc c _ (HR.out.1.later hb1) (by omega) cs HCS.out).mono ?_; rintro e w2 ⟨rfl, hb2⟩))
   clear q0 q1
   have HG : Hid (W.heap.size ≤ g ∧ g < w2.heap.size ∧ PBlk w2 g p ∧ Below W.heap.size W w2) := ⟨HPB.out.2, Nat.lt_of_lt_of_le hg2 hb2.size, HPB.out.1.later hb2 hg2, bnext hb1 hb2⟩
   clear HPB hg2 hb1 hb2
   go_loopw [6] (fun i wr => ∃ (k : Nat) (l : List Int), k + 1 ≤ len ∧ i = .int .i64 ((k : Int) - 1) ∧ Below W.heap.size W wr ∧ g < wr.heap.size ∧ PBlk wr g l ∧ ShOut p c k l) (fun i _ => (intOf i + 1).toNat)
   case atStart => exact ⟨len - 1, p, by have := HP.out; omega, by go_num, HG.out.2.2.2, HG.out.2.1, HG.out.2.2.1, by rw [HR.out.2.2]; exact ShOut.start c (by rw [← HR.out.2.2]; exact HP.out)⟩
   case round =>
    obtain ⟨k, l, hk, rfl, hbel, hgl, hPB, hst⟩ := hrel
    have HS : Hid (PBlk wr g l ∧ ShOut p c k l ∧ Below W.heap.size W wr) := ⟨hPB, hst, hbel⟩
    clear hPB hst hbel
    by_cases hk0 : k = 0
    ·
     subst hk0
     have HE : Hid (l = sh c p) := HS.out.2.1.done
     go_wp2
     go_ret
     refine Or.inr ⟨by rw [HSL.out]; exact HP.out, g, by show _ = _; rw [HSL.out]; rfl, by rw [← HE.out]; exact HS.out.1, Nat.le_trans (Nat.le_of_lt HW.out.2.2) HG.out.1, hgl, bnext HW.out.1 HS.out.2.2⟩
    ·
     obtain ⟨i, rfl⟩ : ∃ i, k = i + 1 := ⟨k - 1, by omega⟩
     have hki : ((i + 1 : Nat) : Int) - 1 = (i : Int) := by omega
     rw [hki]
     clear hk0 hki
     go_wp2
     go_loopw [7] (fun jj w3 => ∃ (j : Nat) (l : List Int), i ≤ j ∧ j + 1 ≤ len ∧ jj = .int .i64 j ∧ Below W.heap.size W w3 ∧ g < w3.heap.size ∧ PBlk w3 g l ∧ ShSt p c i j l) (fun jj _ => len - (intOf jj).toNat)
     case atStart => exact ⟨i, l, Nat.le_refl _, by omega, rfl, HS.out.2.2, hgl, HS.out.1, HS.out.2.1.st⟩
     case round =>
      obtain ⟨j, lj, hij, hj, rfl, hbel, hgw, hPB, hst⟩ := hrel
      have HT : Hid (PBlk wr g lj ∧ ShSt p c i j lj ∧ Below W.heap.size W wr) := ⟨hPB, hst, hbel⟩
      by_cases hjl : j + 1 < len
      ·
       have hlj : lj.length = len := by rw [hst.1]; exact HR.out.2.2.symm
       obtain ⟨n1, ao1, l1, c1, ⟨e0, e1⟩, hi1⟩ := hPB.coef j (by omega)
       obtain ⟨n2, ao2, l2, c2, ⟨f0, f1⟩, hi2⟩ := hPB.coef (j + 1) (by omega)
       have hlm := hst.lims HR.out.2.1 hij (by rw [← HR.out.2.2]; exact hjl)
       have hl1 : l1 ≤ 1000000000 := by rw [hi1.lim]; exact hlm.1
       have hl2 : l2 ≤ 1000000000 := by rw [hi2.lim]; exact hlm.2
       have HI : Hid (IntAt wr n1 ao1 l1 c1 (dig lj j) ∧ IntAt wr n2 ao2 l2 c2 (dig lj (j + 1)) ∧ lj.length = len ∧ lim c ≤ 1000000000 ∧ lim (dig lj (j + 1)) ≤ 1000000000) := ⟨hi1, hi2, hlj, HR.out.2.1.1, hlm.2⟩
       have hfz := hPB.soft
       obtain ⟨b0, b1⟩ := HW.out.2.1.later hbel HW.out.2.2
       have hjI : (j : Int) < (len : Int) - 1 := by omega
       have z1 : (0 : Int) ≤ (j : Int) := by omega
       have z2 : (j : Int) < (len : Int) := by omega
       have z3 : (0 : Int) ≤ (j : Int) + 1 := by omega
       have z4 : (j : Int) + 1 < (len : Int) := by omega
       have z5 : IntKind.i64.wrap ((j : Int) + 1) = (j : Int) + 1 := by rw [IntKind.wrap_i64]; omega
       have z6 : ((j : Int) + 1).toNat = j + 1 := by omega
       clear hPB hst hlj hi1 hi2 hlm
       go_wp2
       go_region_with (first
        | (go_at_call 51; refine (bdtimes_any n n2 co ao2 lc cc l2 c2 c (dig lj (j + 1)) _ ((HR.out.1.later hbel).later (Below.refl _ _).drew) (HI.out.2.1.later (Below.refl _ _).drew) (by omega) (by omega)).mono ?_; rintro e w4 ⟨n3, ao3, l3, c3, rfl, hs3, ho3, hb3'⟩; have hb3 : Below wr.heap.size wr w4 := bnext (Below.refl _ _).drew hb3'; clear hb3'; have HI3 : Hid (IntAt w4 n3 ao3 l3 c3 (c * dig lj (j + 1)) ∧ IntAt w4 n1 ao1 l1 c1 (dig lj j)) := ⟨ho3.int hs3, HI.out.1.later hb3⟩; have hl3 : l3 ≤ 2000000000 := (by have h1 := (ho3.int hs3).lim; have h2 := lim_mul c (dig lj (j + 1)); have h3 := HI.out.2.2.2; omega); clear hs3 ho3; obtain ⟨q0, q1, q2⟩ : w4.cell? ⟨g, j * 2, none⟩ = some (.bool n1) ∧ w4.cell? ⟨g, j * 2 + 1, none⟩ = some (.slice ao1 l1 c1) ∧ (∀ m, w4.frozen? ⟨g, m, none⟩ = false) := ⟨(hb3.cell (p := ⟨g, j * 2, none⟩) hgw).trans e0, (hb3.cell (p := ⟨g, j * 2 + 1, none⟩) hgw).trans e1, fun m => (hb3.frozen (p := ⟨g, m, none⟩) hgw).trans (hfz m)⟩)
        | (go_at_call 50; refine (bdplus_any n1 n3 ao1 ao3 l1 c1 l3 c3 (dig lj j) (c * dig lj (j + 1)) w4 HI3.out.2 HI3.out.1 (by omega) (by omega)).mono ?_; rintro e w5 ⟨n4, ao4, l4, c4, rfl, hs4, ho4, hb4⟩; have HI4 : Hid (IntAt w5 n4 ao4 l4 c4 (dig lj j + c * dig lj (j + 1)) ∧ Below wr.heap.size wr w5) := ⟨ho4.int hs4, bnext hb3 hb4⟩; have hb5 : Below wr.heap.size wr w5 := HI4.out.2; obtain ⟨r0, r1, r2⟩ : w5.cell? ⟨g, j * 2, none⟩ = some (.bool n1) ∧ w5.cell? ⟨g, j * 2 + 1, none⟩ = some (.slice ao1 l1 c1) ∧ (∀ m, w5.frozen? ⟨g, m, none⟩ = false) := ⟨(HI4.out.2.cell (p := ⟨g, j * 2, none⟩) hgw).trans e0, (HI4.out.2.cell (p := ⟨g, j * 2 + 1, none⟩) hgw).trans e1, fun m => (HI4.out.2.frozen (p := ⟨g, m, none⟩) hgw).trans (hfz m)⟩; clear hs4 ho4 hb4))
       all_goals go_wp2
       all_goals go_roundw
       all_goals first
        | exact ⟨j + 1, lj.set j (dig lj j + c * dig lj (j + 1)), by omega, by omega, by go_num, ((bnext HT.out.2.2 hb5).setCell (p := ⟨g, j * 2, none⟩) HG.out.1 _).setCell (p := ⟨g, j * 2 + 1, none⟩) HG.out.1 _, by (have := hb5.size; simp; omega), (HT.out.1.later hb5 hgw).put (by have := HI.out.2.2.1; omega) HI4.out.1, HT.out.2.1.step hij (by rw [← HR.out.2.2]; exact hjl)⟩
        | (simp [intOf]; omega)
      ·
       obtain rfl : len = j + 1 := by omega
       have HO : Hid (ShOut p c i lj) := ShSt.out (by have := HT.out.2.1; rw [← HR.out.2.2]; exact this) (by rw [← HR.out.2.2]; omega)
       go_wp2
       go_roundw
       case rel => exact ⟨i, lj, by omega, by go_num, HT.out.2.2, hgw, HT.out.1, HO.out⟩
       case measure => simp [intOf]
  ·
   have hc0 : Hid (cmpI c 0 = 0 ∧ sh c p = p) := ⟨cmpI_eq (by simpa using hc), by rw [show c = 0 by simpa using hc]; exact sh_zero p⟩
   clear hc
   go_enter Tryz.func28, Tryz.ntmps28
   go_wp2_with (first
    | (go_at_call 48; rw [← hW]; clear hW; refine hcop2.mono ?_; rintro e w1 ⟨g, rfl, hPB, hg1, hg2, hb1⟩; have HPB : Hid (PBlk w1 g p ∧ W.heap.size ≤ g) := ⟨hPB, hg1⟩; clear hPB hg1; obtain ⟨q0, q1⟩ := HW.out.2.1.later hb1 HW.out.2.2)
    | (go_at_call 49; refine (bsign_any n co lc cc c _ (HR.out.1.later hb1) (by omega) 0 hc0.out.1).mono ?_; rintro e w2 ⟨rfl, hb2⟩))
   go_ret
   exact Or.inr ⟨by rw [HSL.out]; exact HP.out, g, by show _ = _; rw [HSL.out]; rfl, by rw [hc0.out.2]; exact HPB.out.1.later hb2 hg2, Nat.le_trans (Nat.le_of_lt HW.out.2.2) HPB.out.2, Nat.lt_of_lt_of_le hg2 hb2.size, bnext HW.out.1 (bnext hb1 hb2)⟩
end Go.Proofs.YtchmdfjmleoajaaGreat
