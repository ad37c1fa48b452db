/-
  JC, JD, JE.
-/
import Derived.Test.YtdanaebhjkbfmaaGreatPH09
import Derived.Test.YtdanaebhjkbfmaaGreatPH10
import Derived.Test.YtdanaebhjkbfmaaGreatPH11
/- Walks: what is too heavy, what is a polynomial, equal ones, a row's copy. -/
namespace Go.Proofs.YtdanaebhjkbfmaaGreat
open Go.RowKit
set_option linter.unusedVariables false
set_option linter.unusedSimpArgs false
/-- too many numbers, or too long ones -/
def heavyB (D L len : Nat) (rs : List (Bool × List Int)) : Bool := decide (D + 1 < len) || rs.any fun r => decide (L < r.2.length)
theorem heavyB_false {D L len : Nat} {rs : List (Bool × List Int)} (h : heavyB D L len rs = false) : len ≤ D + 1 ∧ ∀ r ∈ rs, r.2.length ≤ L := by
  unfold heavyB at h
  rw [Bool.or_eq_false_iff, List.any_eq_false] at h
  refine ⟨by have := of_decide_eq_false h.1; omega, fun r hr => ?_⟩
  have := h.2 r hr
  simpa using this
set_option maxRecDepth 100000 in
set_option maxHeartbeats 1000000 in
theorem heavyPoly_any (D L : Nat) (ao : Option Addr) (len cap : Nat) (rs : List (Bool × List Int)) (w : World) (hr : RawsAt w ao len cap rs) (hl : len ≤ 9223372036854775807) (hD : D ≤ 4294967296) (c : Bool) (hc : heavyB D L len rs = c) :
    Calls Tryz.prog 24 #[.slice ao len cap, .int .i64 (D : Int), .int .i64 (L : Int)] w fun e w' => e = .returned (.bool c) ∧ Below w.heap.size w w' := by
  by_cases hd : D + 1 < len
  · obtain rfl : c = true := by rw [← hc]; simp [heavyB, hd]
    have hd' : ((D : Int) + 1 < (len : Int)) := by omega
    clear hd hc
    go_enter Tryz.func24, Tryz.ntmps24
    go_wp2
    go_ret
    exact ⟨rfl, Below.refl _ _⟩
  · have hd' : ¬ ((D : Int) + 1 < (len : Int)) := by omega
    have HC : Hid (heavyB D L len rs = c ∧ len = rs.length ∧ ¬ (D + 1 < len)) := ⟨hc, hr.hlen, hd⟩
    have HR : Hid (RawsAt w ao len cap rs) := hr
    clear hr hc hd
    go_enter Tryz.func24, Tryz.ntmps24
    go_wp2
    go_loopw [7] (fun i wr => ∃ k : Nat, k ≤ len ∧ i = .int .i64 k ∧ Below w.heap.size w wr ∧ ∀ t, (ht : t < rs.length) → t < k → (rs[t]).2.length ≤ L) (fun i _ => len - (intOf i).toNat)
    case atStart => exact ⟨0, Nat.zero_le _, rfl, Below.refl _ _, fun t _ ht => absurd ht (by omega)⟩
    case round =>
      obtain ⟨k, hk, rfl, hbel, hz⟩ := hrel
      have HZ : Hid (∀ t, (ht : t < rs.length) → t < k → (rs[t]).2.length ≤ L) := hz
      clear hz
      by_cases hlt : k < len
      · obtain ⟨b, off, rfl, hat⟩ := (HR.out.later hbel).get (by omega)
        have hkr : k < rs.length := by rw [← HC.out.2.1]; exact hlt
        obtain ⟨ao1, l1, c1, ⟨h0, h1⟩, hrow, hw⟩ := hat k hkr
        have HL : Hid (l1 = (rs[k]).2.length) := hrow.hlen
        obtain ⟨n1, hn1⟩ : ∃ n1, (rs[k]).1 = n1 := ⟨_, rfl⟩
        rw [hn1] at h0
        clear hn1 hat hrow hw
        by_cases hL : L < l1
        · obtain rfl : c = true := by
            rw [← HC.out.1]; unfold heavyB
            refine Bool.or_eq_true_iff.2 (Or.inr (List.any_eq_true.2 ⟨rs[k], List.getElem_mem hkr, ?_⟩))
            exact decide_eq_true (by have := HL.out; omega)
          have hcon : ∀ W', Calls Tryz.prog 25 #[.agg #[.bool n1, .slice ao1 l1 c1], .int .i64 (L : Int)] W' fun e w' => e = .returned (.bool true) ∧ Below W'.heap.size W' w' := fun W' => (long_any n1 ao1 l1 c1 L W').mono fun e w' h => by rw [decide_eq_true (by omega)] at h; exact h
          clear hL
          go_wp2_with (go_at_call 25; refine (hcon _).mono ?_; rintro e w1 ⟨rfl, hb1⟩)
          go_ret
          exact ⟨rfl, bnext hbel hb1⟩
        · have hcon : ∀ W', Calls Tryz.prog 25 #[.agg #[.bool n1, .slice ao1 l1 c1], .int .i64 (L : Int)] W' fun e w' => e = .returned (.bool false) ∧ Below W'.heap.size W' w' := fun W' => (long_any n1 ao1 l1 c1 L W').mono fun e w' h => by rw [decide_eq_false (by omega)] at h; exact h
          have HLL : Hid (¬ L < l1) := hL
          clear hL
          go_wp2_with (go_at_call 25; refine (hcon _).mono ?_; rintro e w1 ⟨rfl, hb1⟩)
          go_roundw
          case rel => exact ⟨k + 1, by omega, by go_num, bnext hbel hb1, fun t ht htk => by
            by_cases e : t = k
            · subst e; have := HL.out; have := HLL.out; omega
            · exact HZ.out t ht (by omega)⟩
          case measure => simp [intOf]; omega
      · obtain rfl : k = len := by omega
        obtain rfl : c = false := by
          rw [← HC.out.1]; unfold heavyB
          rw [Bool.or_eq_false_iff]
          refine ⟨decide_eq_false HC.out.2.2, ?_⟩
          rw [List.any_eq_false]
          intro r hr
          obtain ⟨t, ht, rfl⟩ := List.getElem_of_mem hr
          have := HZ.out t ht (by rw [HC.out.2.1]; exact ht)
          simp; omega
        go_wp2
        go_ret
        exact ⟨rfl, hbel⟩
/-- is it a polynomial? -/
def pmayB (len : Nat) (rs : List (Bool × List Int)) : Bool := decide (len ≤ 1025) && (rs.all (fun r => mayB r.1 r.2) && (decide (len = 0) || decide ((rs.getD (len - 1) (false, [])).2 ≠ [])))
theorem pmayB_true {len : Nat} {rs : List (Bool × List Int)} (h : pmayB len rs = true) : len ≤ 1025 ∧ (∀ r ∈ rs, mayB r.1 r.2 = true) ∧ (0 < len → (rs.getD (len - 1) (false, [])).2 ≠ []) := by
  simp only [pmayB, Bool.and_eq_true, Bool.or_eq_true, decide_eq_true_eq, List.all_eq_true] at h
  exact ⟨h.1, h.2.1, fun h0 => by rcases h.2.2 with e | e; omega; exact e⟩
set_option maxRecDepth 100000 in
set_option maxHeartbeats 1000000 in
theorem pmay_any (ao : Option Addr) (len cap : Nat) (rs : List (Bool × List Int)) (w : World) (hr : RawsAt w ao len cap rs) (hl : len ≤ 4611686018427387904) (hlim : ∀ r ∈ rs, r.2.length ≤ 4611686018427387904) (c : Bool) (hc : pmayB len rs = c) :
    Calls Tryz.prog 6 #[.slice ao len cap] w fun e w' => e = .returned (.bool c) ∧ Below w.heap.size w w' := by
  by_cases hd : 1025 < len
  · obtain rfl : c = false := by rw [← hc]; unfold pmayB; rw [decide_eq_false (by omega)]; rfl
    have hd' : ((1025 : Int) < (len : Int)) := by omega
    clear hd hc
    go_enter Tryz.func6, Tryz.ntmps6
    go_wp2
    go_ret
    exact ⟨rfl, Below.refl _ _⟩
  · have hd' : ¬ ((1025 : Int) < (len : Int)) := by omega
    have HC : Hid (pmayB len rs = c ∧ len = rs.length ∧ ¬ (1025 < len)) := ⟨hc, hr.hlen, hd⟩
    have HR : Hid (RawsAt w ao len cap rs ∧ ∀ r ∈ rs, r.2.length ≤ 4611686018427387904) := ⟨hr, hlim⟩
    clear hr hc hd hlim
    go_enter Tryz.func6, Tryz.ntmps6
    go_wp2
    go_loopw [3] (fun i wr => ∃ k : Nat, k ≤ len ∧ i = .int .i64 k ∧ Below w.heap.size w wr ∧ ∀ t, (ht : t < rs.length) → t < k → mayB (rs[t]).1 (rs[t]).2 = true) (fun i _ => len - (intOf i).toNat)
    case atStart => exact ⟨0, Nat.zero_le _, rfl, Below.refl _ _, fun t _ ht => absurd ht (by omega)⟩
    case round =>
      obtain ⟨k, hk, rfl, hbel, hz⟩ := hrel
      have HZ : Hid (∀ t, (ht : t < rs.length) → t < k → mayB (rs[t]).1 (rs[t]).2 = true) := hz
      clear hz
      by_cases hlt : k < len
      · obtain ⟨b, off, rfl, hat⟩ := (HR.out.1.later hbel).get (by omega)
        have hkr : k < rs.length := by rw [← HC.out.2.1]; exact hlt
        obtain ⟨ao1, l1, c1, ⟨h0, h1⟩, hrow, hw⟩ := hat k hkr
        have hl1 : l1 ≤ 4611686018427387904 := by rw [hrow.hlen]; exact HR.out.2 _ (List.getElem_mem hkr)
        obtain ⟨m, hm⟩ : ∃ m, mayB (rs[k]).1 (rs[k]).2 = m := ⟨_, rfl⟩
        have HM : Hid (mayB (rs[k]).1 (rs[k]).2 = m) := hm
        obtain ⟨n1, hn1⟩ : ∃ n1, (rs[k]).1 = n1 := ⟨_, rfl⟩
        have hcon : Calls Tryz.prog 7 #[.agg #[.bool n1, .slice ao1 l1 c1]] wr fun e w' => e = .returned (.bool m) ∧ Below wr.heap.size wr w' := may_at n1 ao1 l1 c1 _ wr hrow hl1 m (by rw [← hn1]; exact hm)
        rw [hn1] at h0
        have HK : Hid (k < rs.length) := hkr
        clear hn1 hat hrow hw hm hl1
        cases m
        · obtain rfl : c = false := by
            rw [← HC.out.1]; unfold pmayB
            rw [Bool.and_eq_false_iff]; right
            rw [Bool.and_eq_false_iff]; left
            rw [List.all_eq_false]
            exact ⟨rs[k]'HK.out, List.getElem_mem HK.out, by rw [HM.out]; decide⟩
          go_wp2_with (go_at_call 7; refine hcon.mono ?_; rintro e w1 ⟨rfl, hb1⟩)
          go_ret
          exact ⟨rfl, bnext hbel hb1⟩
        · go_wp2_with (go_at_call 7; refine hcon.mono ?_; rintro e w1 ⟨rfl, hb1⟩)
          go_roundw
          case rel => exact ⟨k + 1, by omega, by go_num, bnext hbel hb1, fun t ht htk => by
            by_cases e : t = k
            · subst e; exact HM.out
            · exact HZ.out t ht (by omega)⟩
          case measure => simp [intOf]; omega
      · obtain rfl : k = len := by omega
        have hall : rs.all (fun r => mayB r.1 r.2) = true := by
          rw [List.all_eq_true]
          intro r hr
          obtain ⟨t, ht, rfl⟩ := List.getElem_of_mem hr
          exact HZ.out t ht (by rw [HC.out.2.1]; exact ht)
        have HC2 : Hid ((decide (k = 0) || decide ((rs.getD (k - 1) (false, [])).2 ≠ [])) = c) := by
          show _ = _
          rw [← HC.out.1]; unfold pmayB
          rw [hall, decide_eq_true (by have := HC.out.2.2; omega : k ≤ 1025)]; rfl
        clear hall
        by_cases h0 : k = 0
        · subst h0
          obtain rfl : c = true := by rw [← HC2.out]; simp
          go_wp2
          go_ret
          exact ⟨rfl, hbel⟩
        · have hn0 : ((k : Int) == 0) = false := by simp; omega
          obtain ⟨b, off, rfl, hat⟩ := (HR.out.1.later hbel).get (by omega)
          have hkr : k - 1 < rs.length := by rw [← HC.out.2.1]; omega
          obtain ⟨ao1, l1, c1, ⟨h0', h1'⟩, hrow, hw⟩ := hat (k - 1) hkr
          obtain ⟨n1, hn1⟩ : ∃ n1, (rs[k - 1]).1 = n1 := ⟨_, rfl⟩
          rw [hn1] at h0'
          have hcz : Hid (((l1 : Int) == 0) = !c) := by
            show _ = _
            rw [← HC2.out, decide_eq_false h0, Bool.false_or, List.getD_eq_getElem?_getD, List.getElem?_eq_getElem hkr, Option.getD_some]
            have := hrow.hlen
            by_cases e : (rs[k - 1]).2 = []
            · rw [decide_eq_false (by simpa using e)]; rw [e] at this; subst this; rfl
            · rw [decide_eq_true e]
              have : l1 ≠ 0 := fun e2 => e (List.eq_nil_of_length_eq_zero (by omega))
              simp; omega
          have hidx : (k : Int) - 1 = ((k - 1 : Nat) : Int) := by omega
          have hcon : ∀ W', Calls Tryz.prog 27 #[.agg #[.bool n1, .slice ao1 l1 c1]] W' fun e w' => e = .returned (.bool (!c)) ∧ Below W'.heap.size W' w' := fun W' => rzero_any n1 ao1 l1 c1 W' (!c) hcz.out
          have hk1 : k - 1 < k := by omega
          clear hn1 hat hrow hw hkr h0
          go_wp2_with (go_at_call 27; refine (hcon _).mono ?_; rintro e w1 ⟨rfl, hb1⟩)
          go_ret
          exact ⟨by simp, bnext hbel hb1⟩
set_option maxRecDepth 100000 in
set_option maxHeartbeats 1000000 in
theorem eqints_same (ao bo : Option Addr) (len ca cb : Nat) (p : List Int) (w : World) (hx : PolyAt w ao len ca p) (hy : PolyAt w bo len cb p) (hl : len ≤ 4611686018427387904) (hlim : Lim 4611686018427387904 p) :
    Calls Tryz.prog 56 #[.slice ao len ca, .slice bo len cb] w fun e w' => e = .returned (.bool true) ∧ Below w.heap.size w w' := by
  have HR : Hid (PolyAt w ao len ca p ∧ PolyAt w bo len cb p ∧ Lim 4611686018427387904 p) := ⟨hx, hy, hlim⟩
  clear hx hy hlim
  go_enter Tryz.func56, Tryz.ntmps56
  go_wp2
  go_loopw [5] (fun i wr => ∃ k : Nat, k ≤ len ∧ i = .int .i64 k ∧ Below w.heap.size w wr) (fun i _ => len - (intOf i).toNat)
  case atStart => exact ⟨0, Nat.zero_le _, rfl, Below.refl _ _⟩
  case round =>
    obtain ⟨k, hk, rfl, hbel⟩ := hrel
    by_cases hlt : k < len
    · obtain ⟨b, off, rfl, hat⟩ := (HR.out.1.later hbel).get (by omega)
      obtain ⟨b', off', rfl, hat'⟩ := (HR.out.2.1.later hbel).get (by omega)
      obtain ⟨n1, ao1, l1, c1, ⟨h0, h1⟩, hi⟩ := hat k hlt
      obtain ⟨n2, ao2, l2, c2, ⟨g0, g1⟩, hj⟩ := hat' k hlt
      have hl1 : l1 ≤ 4611686018427387904 := by rw [hi.lim]; exact HR.out.2.2 _
      have hcon : ∀ W', Below wr.heap.size wr W' → Calls Tryz.prog 82 #[.agg #[.bool n1, .slice ao1 l1 c1], .agg #[.bool n2, .slice ao2 l2 c2]] W' fun e w' => e = .returned (.bool true) ∧ Below W'.heap.size W' w' := fun W' hW => eqint_at n1 n2 ao1 ao2 l1 c1 l2 c2 _ _ W' (hi.later hW) (hj.later hW) hl1 true (decide_eq_true rfl)
      have hlt' : (k : Int) < (len : Int) := by omega
      have hge' : (0 : Int) ≤ (k : Int) := by omega
      have KS : Hid (∀ w', Below wr.heap.size wr w' → Below wr.heap.size wr w' ∧ w'.cell? ⟨b, off + k * 2, none⟩ = some (.bool n1) ∧ w'.cell? ⟨b, off + k * 2 + 1, none⟩ = some (.slice ao1 l1 c1) ∧ w'.cell? ⟨b', off' + k * 2, none⟩ = some (.bool n2) ∧ w'.cell? ⟨b', off' + k * 2 + 1, none⟩ = some (.slice ao2 l2 c2)) := fun w' hb => ⟨hb, (hb.cell (p := ⟨b, off + k * 2, none⟩) (cell_lt h0)).trans h0, (hb.cell (p := ⟨b, off + k * 2 + 1, none⟩) (cell_lt h1)).trans h1, (hb.cell (p := ⟨b', off' + k * 2, none⟩) (cell_lt g0)).trans g0, (hb.cell (p := ⟨b', off' + k * 2 + 1, none⟩) (cell_lt g1)).trans g1⟩
      clear hat hat' hi hj hl1
      go_wp2
      go_region_held3 (fun w' => Below wr.heap.size wr w' ∧ w'.cell? ⟨b, off + k * 2, none⟩ = some (.bool n1) ∧ w'.cell? ⟨b, off + k * 2 + 1, none⟩ = some (.slice ao1 l1 c1) ∧ w'.cell? ⟨b', off' + k * 2, none⟩ = some (.bool n2) ∧ w'.cell? ⟨b', off' + k * 2 + 1, none⟩ = some (.slice ao2 l2 c2))
        (first | exact KS.out _ (Below.refl _ _).drew | exact KS.out _ (by assumption))
        (first | (go_at_call 82; refine (hcon _ (Below.refl _ _).drew).mono ?_; rintro e w1 ⟨rfl, hb1'⟩; have hb1 : Below wr.heap.size wr w1 := bnext (Below.refl _ _).drew hb1'))
      go_wp2
      go_roundw
      case rel => exact ⟨k + 1, by omega, by go_num, bnext hbel hb1⟩
      case measure => simp [intOf]; omega
    · obtain rfl : k = len := by omega
      go_wp2
      go_ret
      exact ⟨rfl, hbel⟩
end Go.Proofs.YtdanaebhjkbfmaaGreat
/- Walks: a polynomial is checked; a row's copy; sums and products of coefficients. -/
namespace Go.Proofs.YtdanaebhjkbfmaaGreat
open Go.RowKit
set_option linter.unusedVariables false
set_option linter.unusedSimpArgs false
set_option maxRecDepth 100000 in
set_option maxHeartbeats 1000000 in
theorem isZero_any (neg : Bool) (ao : Option Addr) (len cap : Nat) (w : World) (c : Bool) (hc : ((len : Int) == 0) = c) :
    Calls Tryz.prog 81 #[.agg #[.bool neg, .slice ao len cap]] w fun e w' => e = .returned (.bool c) ∧ Below w.heap.size w w' := by
  go_enter Tryz.func81, Tryz.ntmps81
  go_wp2
  go_ret
  exact ⟨rfl, (Below.refl _ _).alloc (Nat.le_refl _) _⟩
theorem lim_pos {v : Int} (h : v ≠ 0) : lim v ≠ 0 := by
  intro e
  have e2 : mag v.natAbs = [] := List.eq_nil_of_length_eq_zero e
  have := mag_val v.natAbs
  rw [e2] at this
  simp [val] at this
  omega
set_option maxRecDepth 100000 in
set_option maxHeartbeats 1000000 in
theorem pcheck_ok (ao : Option Addr) (len cap : Nat) (p : List Int) (w : World) (hp : PolyAt w ao len cap p) (hl : len ≤ 1025) (hL : Lead p) (hlim : Lim 4611686018427387904 p) :
    Calls Tryz.prog 54 #[.slice ao len cap] w fun e w' => e = .returned (.int .i64 0) ∧ Below w.heap.size w w' := by
  have HR : Hid (PolyAt w ao len cap p ∧ Lead p ∧ Lim 4611686018427387904 p) := ⟨hp, hL, hlim⟩
  have HLEN : Hid (len = p.length) := hp.hlen
  clear hp hL hlim
  have hl1 : ¬ ((1025 : Int) < (len : Int)) := by omega
  have main : ∀ (w1 : World), Below w.heap.size w w1 → ∀ k : Nat, k < len → ∃ b off n1 ao1 l1 c1, ao = some ⟨b, off, none⟩ ∧ w1.cell? ⟨b, off + k * 2, none⟩ = some (.bool n1) ∧ w1.cell? ⟨b, off + k * 2 + 1, none⟩ = some (.slice ao1 l1 c1) ∧ IntAt w1 n1 ao1 l1 c1 (dig p k) ∧ l1 ≤ 4611686018427387904 := by
    intro w1 hb k hk
    obtain ⟨b, off, h1, hat⟩ := (HR.out.1.later hb).get (by omega)
    obtain ⟨n1, ao1, l1, c1, ⟨h0, h1'⟩, hi⟩ := hat k hk
    exact ⟨b, off, n1, ao1, l1, c1, h1, h0, h1', hi, by rw [hi.lim]; exact HR.out.2.2 _⟩
  have HM : Hid (∀ (w1 : World), Below w.heap.size w w1 → ∀ k : Nat, k < len → ∃ b off n1 ao1 l1 c1, ao = some ⟨b, off, none⟩ ∧ w1.cell? ⟨b, off + k * 2, none⟩ = some (.bool n1) ∧ w1.cell? ⟨b, off + k * 2 + 1, none⟩ = some (.slice ao1 l1 c1) ∧ IntAt w1 n1 ao1 l1 c1 (dig p k) ∧ l1 ≤ 4611686018427387904) := main
  clear main
  by_cases h0 : len = 0
  · subst h0
    go_enter Tryz.func54, Tryz.ntmps54
    go_wp2
    go_loopw [24] (fun i wr => i = .int .i64 0 ∧ wr = w) (fun i _ => 0)
    case atStart => exact ⟨rfl, rfl⟩
    case round =>
      obtain ⟨rfl, rfl⟩ := hrel
      go_wp2
      go_ret
      exact ⟨rfl, Below.refl _ _⟩
  · obtain ⟨b, off, n1, ao1, l1, c1, rfl, h1, h2, hi, hli⟩ := HM.out w (Below.refl _ _) (len - 1) (by omega)
    have hz : ((l1 : Int) == 0) = false := by
      have h3 := HR.out.2.1 (by rw [← HLEN.out]; omega)
      rw [← HLEN.out] at h3
      have h4 := lim_pos h3
      have h5 := hi.lim
      simp; omega
    have hcz : ∀ W', Calls Tryz.prog 81 #[.agg #[.bool n1, .slice ao1 l1 c1]] W' fun e w' => e = .returned (.bool false) ∧ Below W'.heap.size W' w' := fun W' => isZero_any n1 ao1 l1 c1 W' false hz
    have hidx : (len : Int) - 1 = ((len - 1 : Nat) : Int) := by omega
    have hk1 : len - 1 < len := by omega
    have hpos : (0 : Int) < (len : Int) := by omega
    clear hi hli hz h0
    go_enter Tryz.func54, Tryz.ntmps54
    go_wp2_with (go_at_call 81; refine (hcz _).mono ?_; rintro e w1 ⟨rfl, hb1⟩)
    go_loopw [24] (fun i wr => ∃ k : Nat, k ≤ len ∧ i = .int .i64 k ∧ Below w.heap.size w wr) (fun i _ => len - (intOf i).toNat)
    case atStart => exact ⟨0, Nat.zero_le _, rfl, hb1⟩
    case round =>
      clear h1 h2
      obtain ⟨k, hk, rfl, hbel⟩ := hrel
      by_cases hlt : k < len
      · obtain ⟨b', off', n2, ao2, l2, c2, he, h1, h2, hi, hli⟩ := HM.out wr hbel k hlt
        cases he
        have hA : Below wr.heap.size wr (wr.alloc (.cells #[.bool n2, .slice ao2 l2 c2] 28)) := (Below.refl _ _).alloc (Nat.le_refl _) _
        have hcon : Calls Tryz.prog 62 #[.agg #[.bool n2, .slice ao2 l2 c2]] (wr.alloc (.cells #[.bool n2, .slice ao2 l2 c2] 28)) fun e w' => e = .returned (.int .i64 0) ∧ Below (wr.alloc (.cells #[.bool n2, .slice ao2 l2 c2] 28)).heap.size (wr.alloc (.cells #[.bool n2, .slice ao2 l2 c2] 28)) w' := check_at n2 ao2 l2 c2 _ _ (hi.later hA).row hli 0 hi.may
        clear hi hli
        go_wp2_with (go_at_call 62; refine hcon.mono ?_; rintro e w2 ⟨rfl, hb2⟩)
        go_roundw
        case rel => exact ⟨k + 1, by omega, by go_num, bnext hbel (bnext hA hb2)⟩
        case measure => simp [intOf]; omega
      · obtain rfl : k = len := by omega
        go_wp2
        go_ret
        exact ⟨rfl, hbel⟩
set_option maxRecDepth 100000 in
set_option maxHeartbeats 1000000 in
theorem boundCheck_ok (ao : Option Addr) (len cap : Nat) (p : List Int) (w : World) (hp : PolyAt w ao len cap p) (hl : len ≤ 1025) (hL : Lead p) (hlim : Lim 4611686018427387904 p) :
    Calls Tryz.prog 42 #[.slice ao len cap] w fun e w' => e = .returned .nilIface ∧ Below w.heap.size w w' := by
  have hcon := pcheck_ok ao len cap p w hp hl hL hlim
  clear hp hL hlim
  go_enter Tryz.func42, Tryz.ntmps42
  go_wp2_with (go_at_call 54; refine hcon.mono ?_; rintro e w1 ⟨rfl, hb1⟩)
  go_ret
  exact ⟨rfl, hb1⟩
set_option maxRecDepth 100000 in
set_option maxHeartbeats 1000000 in
theorem checkMove_ok (ao : Option Addr) (len cap : Nat) (p : List Int) (n : Bool) (co : Option Addr) (l c : Nat) (v : Int) (w : World) (hp : PolyAt w ao len cap p) (hl : len ≤ 1025) (hL : Lead p) (hlim : Lim 4611686018427387904 p) (hv : IntAt w n co l c v) (hlv : l ≤ 4611686018427387904) :
    Calls Tryz.prog 38 #[.slice ao len cap, .agg #[.bool n, .slice co l c]] w fun e w' => e = .returned .nilIface ∧ Below w.heap.size w w' := by
  have hA : Below w.heap.size w (w.alloc (.cells #[.bool n, .slice co l c] 28)) := (Below.refl _ _).alloc (Nat.le_refl _) _
  have hcon := boundCheck_ok ao len cap p _ (hp.later hA) hl hL hlim
  have HV : Hid (IntAt (w.alloc (.cells #[.bool n, .slice co l c] 28)) n co l c v ∧ Boxed (w.alloc (.cells #[.bool n, .slice co l c] 28)) w.heap.size n co l c) := ⟨hv.later hA, by simp [go_sem], by simp [go_sem]⟩
  have hM : Hid ((if mayB n (mag v.natAbs) then 0 else 10 : Int) = 0) := hv.may
  clear hp hL hlim hv
  go_enter Tryz.func38, Tryz.ntmps38
  go_wp2_with (first
    | (go_at_call 42; refine hcon.mono ?_; rintro e w1 ⟨rfl, hb1⟩; obtain ⟨q0, q1⟩ := HV.out.2.later hb1 (by simp))
    | (go_at_call 62; refine (check_at n co l c _ _ (HV.out.1.later hb1).row hlv 0 hM.out).mono ?_; rintro e w2 ⟨rfl, hb2⟩))
  go_ret
  exact ⟨rfl, bnext hA (bnext hb1 hb2)⟩
set_option maxRecDepth 100000 in
set_option maxHeartbeats 1000000 in
theorem bdtimes_any (na nb : Bool) (ao bo : Option Addr) (la ca lb cb : Nat) (a b : Int) (w : World) (hx : IntAt w na ao la ca a) (hy : IntAt w nb bo lb cb b) (hl : la ≤ 2147483648) (hl' : lb ≤ 2147483648) :
    Calls Tryz.prog 66 #[.agg #[.bool na, .slice ao la ca], .agg #[.bool nb, .slice bo lb cb]] w fun e w' => NewInt w w' e (a * b) := by
  obtain ⟨W, hT⟩ := Two3.mk' w na nb ao bo la ca lb cb
  have hsz := hT.size
  have hRx := hx.later hT.below
  have hRy := hy.later hT.below
  clear hx hy
  go_enter Tryz.func66, Tryz.ntmps66
  go_wp2_with (first
    | (go_at_call 90; rw [← hT.eq]; refine (bmul_any na nb ao bo la ca lb cb a b _ hRx hRy hl hl').mono ?_; rintro e w1 ⟨n1, ao1, l1, c1, rfl, hsg1, ho1, hb1⟩; have HS : Hid (n1 = sgB (a * b)) := hsg1; clear hsg1; have hs1 := hb1.size; have hbA : Below W.heap.size W (w1.alloc (.cells #[.bool n1, .slice ao1 l1 c1] 28)) := hb1.trans ((Below.refl _ _).alloc hs1 _); obtain ⟨g5, g3, g4⟩ := hT.r.later hbA (by omega)))
  exact bodyPost_ret (v := .agg #[.bool n1, .slice ao1 l1 c1]) (by simp [results, Tryz.results66, go_sem, g3, g4]) rfl
    ⟨_, _, _, _, rfl, HS.out, (((ho1.later ((Below.refl _ _).alloc (Nat.le_refl _) _)).store (by omega) _ _).mono (by omega)), below_store (bnext hT.below hbA) (by omega) _ _⟩
set_option maxRecDepth 100000 in
set_option maxHeartbeats 1000000 in
theorem bdplus_any (na nb : Bool) (ao bo : Option Addr) (la ca lb cb : Nat) (a b : Int) (w : World) (hx : IntAt w na ao la ca a) (hy : IntAt w nb bo lb cb b) (hl : la ≤ 2147483648) (hl' : lb ≤ 2147483648) :
    Calls Tryz.prog 65 #[.agg #[.bool na, .slice ao la ca], .agg #[.bool nb, .slice bo lb cb]] w fun e w' => NewInt w w' e (a + b) := by
  obtain ⟨W, hT⟩ := Two3.mk' w na nb ao bo la ca lb cb
  have hsz := hT.size
  have hRx := hx.later hT.below
  have hRy := hy.later hT.below
  clear hx hy
  go_enter Tryz.func65, Tryz.ntmps65
  go_wp2_with (first
    | (go_at_call 89; rw [← hT.eq]; refine (add_any na nb ao bo la ca lb cb a b _ hRx hRy (by omega) (by omega)).mono ?_; rintro e w1 ⟨n1, ao1, l1, c1, rfl, hsg1, ho1, hb1⟩; have HS : Hid (n1 = sgB (a + b)) := hsg1; clear hsg1; have hs1 := hb1.size; have hbA : Below W.heap.size W (w1.alloc (.cells #[.bool n1, .slice ao1 l1 c1] 28)) := hb1.trans ((Below.refl _ _).alloc hs1 _); obtain ⟨g5, g3, g4⟩ := hT.r.later hbA (by omega)))
  exact bodyPost_ret (v := .agg #[.bool n1, .slice ao1 l1 c1]) (by simp [results, Tryz.results65, go_sem, g3, g4]) rfl
    ⟨_, _, _, _, rfl, HS.out, (((ho1.later ((Below.refl _ _).alloc (Nat.le_refl _) _)).store (by omega) _ _).mono (by omega)), below_store (bnext hT.below hbA) (by omega) _ _⟩
end Go.Proofs.YtdanaebhjkbfmaaGreat
/- Walks: a polynomial's copy in memory of the call's own. -/
namespace Go.Proofs.YtdanaebhjkbfmaaGreat
open Go.RowKit
set_option linter.unusedVariables false
set_option linter.unusedSimpArgs false
theorem infoInt : (Tryz.prog.info? 28).map (fun i => (i.zero, i.size, i.bytes)) = some (some (.agg #[.bool false, .slice none 0 0]), 2, 32) := by kernel_rfl
theorem pblk_of_made {w w' : World} {B n : Nat} {t : TypeId} (h : w'.ownsRow B t 2 (.slice (some ⟨w.heap.size, 0, none⟩) n n) n (madeCells (Value.agg #[.bool false, .slice none 0 0]).cells (n * 2)).toList) : PBlk w' w.heap.size (List.replicate n 0) ∧ w.heap.size < w'.heap.size := by
  obtain ⟨_, h2⟩ := h
  rcases h2 with ⟨h2, _⟩ | ⟨g', cap, cur, hv, hg, hh, hc1, _, hs, ht⟩
  · cases h2
  · simp only [Value.slice.injEq, Option.some.injEq, Addr.mk.injEq] at hv
    obtain ⟨⟨hge, _⟩, _, hce⟩ := hv
    subst hge
    subst hce
    have hcell : ∀ j, j < n * 2 → w'.cell? ⟨w.heap.size, j, none⟩ = some (if j % 2 = 0 then .bool false else .slice none 0 0) := by
      intro j hj
      have e1 : cur.toList[j]? = (madeCells (Value.agg #[.bool false, .slice none 0 0]).cells (n * 2)).toList[j]? := by
        rw [← ht, List.getElem?_take, if_pos hj]
      have e2 : (madeCells (Value.agg #[.bool false, .slice none 0 0]).cells (n * 2)).toList[j]? = some (if j % 2 = 0 then .bool false else .slice none 0 0) := by
        simp only [madeCells, Array.toList_map, List.getElem?_map, Array.toList_range, List.getElem?_range hj, Option.map_some]
        congr 1
        have e3 : (Value.agg #[.bool false, .slice none 0 0]).cells = #[.bool false, .slice none 0 0] := by simp [Value.cells]
        rw [e3]
        have : j % 2 = 0 ∨ j % 2 = 1 := by omega
        rcases this with h | h <;> simp [h]
      rw [e2] at e1
      simp only [World.cell?, hh]
      simpa using e1
    refine ⟨⟨fun j => by simp [World.frozen?, hh], fun t ht => ?_⟩, heap_lt hh⟩
    have ht' : t < n := by simpa using ht
    rw [rep_dig]
    refine ⟨false, none, 0, 0, ⟨by rw [hcell _ (by omega), if_pos (by omega)], by rw [hcell _ (by omega), if_neg (by omega)]⟩, rfl, RowAt.nilRow _ _⟩
/-- copied up to place k, 0 behind -/
def CpSt (p : List Int) (k : Nat) (l : List Int) : Prop := l.length = p.length ∧ ∀ t, t < p.length → dig l t = if t < k then dig p t else 0
theorem CpSt.start (p : List Int) : CpSt p 0 (List.replicate p.length 0) := ⟨by simp, fun t ht => by rw [rep_dig, if_neg (by omega)]⟩
theorem CpSt.step {p l : List Int} {k : Nat} (h : CpSt p k l) (hk : k < p.length) : CpSt p (k + 1) (l.set k (dig p k)) := by
  refine ⟨by simpa using h.1, fun t ht => ?_⟩
  rw [pdig_set _ _ _ _ (by rw [h.1]; exact ht)]
  by_cases e : t = k
  · subst e; rw [if_pos rfl, if_pos (by omega)]
  · rw [if_neg e, h.2 t ht]
    by_cases e2 : t < k
    · rw [if_pos e2, if_pos (by omega)]
    · rw [if_neg e2, if_neg (by omega)]
theorem CpSt.skip {p l : List Int} {k : Nat} (h : CpSt p k l) (hk : k < p.length) (h0 : dig p k = 0) : CpSt p (k + 1) l := by
  refine ⟨h.1, fun t ht => ?_⟩
  rw [h.2 t ht]
  by_cases e : t = k
  · subst e; rw [if_neg (by omega), if_pos (by omega), h0]
  · by_cases e2 : t < k
    · rw [if_pos e2, if_pos (by omega)]
    · rw [if_neg e2, if_neg (by omega)]
theorem CpSt.done {p l : List Int} (h : CpSt p p.length l) : l = p := dig_ext h.1 fun t ht => by rw [h.1] at ht; rw [h.2 t ht, if_pos ht]
/-- a polynomial in a block of the call's own: what a call hands back -/
def NewPB (w w' : World) (e : Ending) (p : List Int) : Prop :=
  (p.length = 0 ∧ e = .returned (.slice none 0 0) ∧ Below w.heap.size w w') ∨ (0 < p.length ∧ ∃ g, e = .returned (.slice (some ⟨g, 0, none⟩) p.length p.length) ∧ PBlk w' g p ∧ w.heap.size ≤ g ∧ g < w'.heap.size ∧ Below w.heap.size w w')
theorem NewPB.poly {w w' : World} {e : Ending} {p : List Int} (h : NewPB w w' e p) : NewPoly w w' e p := by
  rcases h with ⟨h0, he, hb⟩ | ⟨h0, g, he, hp, _, _, hb⟩
  · obtain rfl : p = [] := List.eq_nil_of_length_eq_zero h0
    exact ⟨_, _, _, he, PolyAt.nilPoly _, hb⟩
  · exact ⟨_, _, _, he, hp.poly rfl, hb⟩
theorem zero_of_lim {v : Int} (h : lim v = 0) : v = 0 := by
  rcases Decidable.em (v = 0) with e | e
  · exact e
  · exact absurd h (lim_pos e)
set_option maxRecDepth 100000 in
set_option maxHeartbeats 2000000 in
theorem copied_any (ao : Option Addr) (len cap : Nat) (p : List Int) (w : World) (hp : PolyAt w ao len cap p) (hl : len ≤ 1048576) (hlim : Lim 4294967296 p) :
    Calls Tryz.prog 64 #[.slice ao len cap] w fun e w' => NewPB w w' e p := by
  have HR : Hid (PolyAt w ao len cap p ∧ Lim 4294967296 p) := ⟨hp, hlim⟩
  have HLEN : Hid (len = p.length) := hp.hlen
  clear hp hlim
  by_cases h0 : len = 0
  · subst h0
    go_enter Tryz.func64, Tryz.ntmps64
    go_wp2
    go_ret
    exact Or.inl ⟨HLEN.out.symm, rfl, Below.refl _ _⟩
  · have hn0 : ((len : Int) == 0) = false := by simp; omega
    obtain ⟨i0, hi, hz0, hz1, hz2⟩ := info_parts infoInt
    have b1 : Hid (i0.bytes * len ≤ 281474976710656) := by show _ ≤ _; rw [hz2]; omega
    have b2 : Hid (len ≤ maxLen) := by show _ ≤ _; unfold maxLen; omega
    have HP : Hid (0 < len) := by show 0 < _; omega
    clear h0
    go_enter Tryz.func64, Tryz.ntmps64
    go_wp2_with (at_make; refine wpList_make_full _ rfl (.tmp 10) (.tmp 10) 24 rfl w.heap.size 28 i0 (.agg #[.bool false, .slice none 0 0]) 2 Tryz.underlying24 hi hz0 hz1 .i64 .i64 _ _ len rfl rfl rfl rfl b1.out b2.out (Nat.le_refl _) ?_; intro w1 hown1 hgrow1)
    have HM : Hid (PBlk w1 w.heap.size (List.replicate len 0) ∧ w.heap.size < w1.heap.size ∧ Below w.heap.size w w1) := ⟨(pblk_of_made hown1).1, (pblk_of_made hown1).2, grown_below hgrow1⟩
    clear hown1 hgrow1
    go_loopw [14] (fun i wr => ∃ (k : Nat) (l : List Int), k ≤ len ∧ i = .int .i64 k ∧ Below w.heap.size w wr ∧ w.heap.size < wr.heap.size ∧ PBlk wr w.heap.size l ∧ CpSt p k l) (fun i _ => len - (intOf i).toNat)
    case atStart => exact ⟨0, _, Nat.zero_le _, rfl, HM.out.2.2, HM.out.2.1, HM.out.1, by rw [HLEN.out]; exact CpSt.start p⟩
    case round =>
      obtain ⟨k, l, hk, rfl, hbel, hgl, hPB, hst⟩ := hrel
      have HS : Hid (PBlk wr w.heap.size l ∧ CpSt p k l ∧ Below w.heap.size w wr) := ⟨hPB, hst, hbel⟩
      by_cases hlt : k < len
      · obtain ⟨b, off, rfl, hat⟩ := (HR.out.1.later hbel).get (by omega)
        obtain ⟨n1, ao1, l1, c1, ⟨h1, h2⟩, hint⟩ := hat k hlt
        have hl1 : l1 ≤ 4294967296 := by rw [hint.lim]; exact HR.out.2 _
        obtain ⟨n0, a0, l0, c0, ⟨e0, e1⟩, _⟩ := hPB.coef k (by rw [hst.1, ← HLEN.out]; exact hlt)
        have hfz := hPB.soft
        have hA : Below wr.heap.size wr (wr.alloc (.cells #[.bool n1, .slice ao1 l1 c1] 28)) := (Below.refl _ _).alloc (Nat.le_refl _) _
        have HI : Hid (IntAt wr n1 ao1 l1 c1 (dig p k)) := hint
        have hlen' : len = len := rfl
        clear hat hint hPB hst hbel
        by_cases hz : l1 = 0
        · subst hz
          have hd0 : Hid (dig p k = 0) := zero_of_lim HI.out.lim.symm
          go_wp2
          go_roundw
          case rel => exact ⟨k + 1, l, by omega, by go_num, bnext HS.out.2.2 hA, Nat.lt_of_lt_of_le hgl hA.size, HS.out.1.later hA hgl, HS.out.2.1.skip (by rw [← HLEN.out]; exact hlt) hd0.out⟩
          case measure => simp [intOf]; omega
        · have hz' : (0 : Int) < (l1 : Int) := by omega
          obtain ⟨W, hW⟩ : ∃ W, W = wr.alloc (.cells #[.bool n1, .slice ao1 l1 c1] 28) := ⟨_, rfl⟩
          have HW : Hid (Below wr.heap.size wr W ∧ Boxed W wr.heap.size n1 ao1 l1 c1 ∧ wr.heap.size < W.heap.size) := by rw [hW]; exact ⟨hA, ⟨by simp [go_sem], by simp [go_sem]⟩, by simp⟩
          have hcon : ∀ W', Below W.heap.size W W' → Calls Tryz.prog 88 #[.slice ao1 l1 c1] W' fun e w' => NewRow W' w' e (mag (dig p k).natAbs) := fun W' hb => clone_row ao1 l1 c1 _ W' ((HI.out.later HW.out.1).later hb).row (by omega) hl1
          have KS : Hid (∀ w', Below W.heap.size W w' → w'.cell? ⟨wr.heap.size, 0, none⟩ = some (.bool n1) ∧ w'.cell? ⟨wr.heap.size, 1, none⟩ = some (.slice ao1 l1 c1)) := fun w' hb => HW.out.2.1.later hb HW.out.2.2
          have hne : wr.heap.size ≠ w.heap.size := by omega
          have K2 : Hid (∀ (w' : World) (j : Nat) (x : Value), (w'.cell? ⟨wr.heap.size, 0, none⟩ = some (.bool n1) ∧ w'.cell? ⟨wr.heap.size, 1, none⟩ = some (.slice ao1 l1 c1)) → ((w'.setCell ⟨w.heap.size, j, none⟩ x).cell? ⟨wr.heap.size, 0, none⟩ = some (.bool n1) ∧ (w'.setCell ⟨w.heap.size, j, none⟩ x).cell? ⟨wr.heap.size, 1, none⟩ = some (.slice ao1 l1 c1))) := fun w' j x h => ⟨by rw [setCell_ne (by rintro ⟨h, _⟩; exact hne h)]; exact h.1, by rw [setCell_ne (by rintro ⟨h, _⟩; exact hne h)]; exact h.2⟩
          have HPW : Hid (PBlk W w.heap.size l) := HS.out.1.later HW.out.1 hgl
          have hkl : Hid (k < l.length) := by show k < _; rw [HS.out.2.1.1, ← HLEN.out]; exact hlt
          clear e0 e1 hfz
          go_wp2
          rw [← hW]
          clear hW
          go_region_held3 (fun w' => w'.cell? ⟨wr.heap.size, 0, none⟩ = some (.bool n1) ∧ w'.cell? ⟨wr.heap.size, 1, none⟩ = some (.slice ao1 l1 c1))
            (first
              | exact KS.out _ (Below.refl _ _).drew
              | exact KS.out _ (by assumption)
              | exact K2.out _ _ _ (K2.out _ _ _ (KS.out _ (by assumption)))
              | exact K2.out _ _ _ (KS.out _ (by assumption)))
            (first
              | (go_at_call 88; refine (hcon _ (Below.refl _ _).drew).mono ?_; rintro e w2 ⟨ao2, l2, c2, rfl, ho2, hb2'⟩; have hb2 : Below W.heap.size W w2 := bnext (Below.refl _ _).drew hb2'; have HO : Hid (IntAt w2 n1 ao2 l2 c2 (dig p k)) := ⟨HI.out.sg, ho2.row⟩; have HP2 := HPW.out.later hb2 (Nat.lt_of_lt_of_le hgl HW.out.1.size); obtain ⟨n0', a0', l0', c0', ⟨e0, e1⟩, _⟩ := HP2.coef k hkl.out; have hfz := HP2.soft; have HPH : Hid (PBlk w2 w.heap.size l) := HP2; clear HP2 ho2))
          go_wp2
          go_roundw
          case rel => exact ⟨k + 1, l.set k (dig p k), by omega, by go_num, ((bnext HS.out.2.2 (bnext HW.out.1 hb2)).setCell (p := ⟨w.heap.size, k * 2, none⟩) (Nat.le_refl _) _).setCell (p := ⟨w.heap.size, k * 2 + 1, none⟩) (Nat.le_refl _) _, by (have := hb2.size; have := HW.out.1.size; simp; omega), HPH.out.put hkl.out HO.out, HS.out.2.1.step (by rw [← HLEN.out]; exact hlt)⟩
          case measure => simp [intOf]; omega
      · obtain rfl : k = len := by omega
        have HE : Hid (l = p) := CpSt.done (by have := HS.out.2.1; rw [HLEN.out] at this; exact this)
        go_wp2
        go_ret
        refine Or.inr ⟨by rw [← HLEN.out]; exact HP.out, w.heap.size, by show _ = _; rw [← HLEN.out]; rfl, ?_, Nat.le_refl _, hgl, hbel⟩
        have := HS.out.1; rw [HE.out] at this; exact this
end Go.Proofs.YtdanaebhjkbfmaaGreat
/-
  HG, HH.
-/
/- Walks: the page's NDivide. -/
namespace Go.Proofs.YtdanaebhjkbfmaaGreat
open Go.RowKit
set_option linter.unusedVariables false
set_option linter.unusedSimpArgs false
/-- a is Q b and rv; L makes Q; what is left to find is below 2^k -/
structure NDivSt (a b k Q rv m : Nat) (L : List Int) : Prop where
  eq : a = Q * b + rv
  lt : rv < b * 2 ^ k
  dvd : (2 : Int) ^ k ∣ val 18446744073709551616 L
  len : L.length = m
  wd : Wd 18446744073709551616 L
  vl : val 18446744073709551616 L = (Q : Int)
theorem NDivSt.start {a b k m : Nat} (h : a < b * 2 ^ k) : NDivSt a b k 0 a m (List.replicate m 0) :=
  ⟨by omega, h, by rw [zeros_val]; exact ⟨0, by simp⟩, by simp, wd_zeros (by decide) _, by rw [zeros_val]; rfl⟩
theorem NDivSt.no {a b k Q rv m : Nat} {L : List Int} (h : NDivSt a b (k + 1) Q rv m L) (hlt : rv < b * 2 ^ k) : NDivSt a b k Q rv m L :=
  ⟨h.eq, hlt, Int.dvd_trans ⟨2, by rw [Int.pow_succ]⟩ h.dvd, h.len, h.wd, h.vl⟩
theorem NDivSt.done {a b Q rv m : Nat} {L : List Int} (h : NDivSt a b 0 Q rv m L) : Q = a / b ∧ rv = a % b := by
  have hl := h.lt
  rw [Nat.pow_zero, Nat.mul_one] at hl
  have he := h.eq
  rw [he, Nat.mul_comm, Nat.mul_add_div (by omega), Nat.mul_add_mod, Nat.div_eq_of_lt hl, Nat.mod_eq_of_lt hl]
  exact ⟨rfl, rfl⟩
/-- a row that does not lie in block g -/
def Off (g : Nat) (w : World) (ao : Option Addr) (len cap n : Nat) : Prop := RowAt w .u64 ao len cap (mag n) ∧ ∀ b o, ao = some ⟨b, o, none⟩ → b ≠ g
theorem Off.later {g : Nat} {w w' : World} {ao : Option Addr} {len cap n : Nat} (h : Off g w ao len cap n) (hb : Below w.heap.size w w') : Off g w' ao len cap n := ⟨h.1.later hb, h.2⟩
theorem Off.set {g : Nat} {w : World} {ao : Option Addr} {len cap n : Nat} (h : Off g w ao len cap n) (j : Nat) (v : Value) : Off g (w.setCell ⟨g, j, none⟩ v) ao len cap n := by
  refine ⟨⟨h.1.hlen, h.1.hcap, h.1.hnil, ?_⟩, h.2⟩
  rcases h.1.hat with h0 | ⟨b, off, h1, hlt, h2⟩
  · exact Or.inl h0
  · have hne := h.2 b off h1
    exact Or.inr ⟨b, off, h1, by simpa using hlt, fun t ht => by rw [← h2 t ht]; simp only [World.cell?, Below.heap_setCell w ⟨g, j, none⟩ v b hne]⟩
theorem Off.ofOwn {g B : Nat} {w : World} {ao : Option Addr} {len cap n : Nat} (h : Own B w .u64 73 ao len cap (mag n)) (hB : g < B) : Off g w ao len cap n := by
  refine ⟨h.row, fun b o hb => ?_⟩
  rcases h with ⟨h1, _⟩ | ⟨g', off, cur, h1, h2, _⟩
  · rw [h1] at hb; cases hb
  · rw [h1] at hb; cases hb; omega
theorem Off.old {g : Nat} {w : World} {ao : Option Addr} {len cap n : Nat} (h : RowAt w .u64 ao len cap (mag n)) (hg : w.heap.size ≤ g) (h0 : 0 < n) : Off g w ao len cap n := by
  refine ⟨h, fun b o hb => ?_⟩
  obtain ⟨b', o', h1, h2, _⟩ := h.get (by rw [h.hlen]; exact mag_len_pos.2 h0)
  rw [h1] at hb; cases hb; omega
end Go.Proofs.YtdanaebhjkbfmaaGreat
/- Walks: the page's NDivide whole, NGcd, Gcd. -/
namespace Go.Proofs.YtdanaebhjkbfmaaGreat
open Go.RowKit
set_option linter.unusedVariables false
set_option linter.unusedSimpArgs false
end Go.Proofs.YtdanaebhjkbfmaaGreat
/-
  Variables that hold numbers: what a store leaves.
-/
namespace Go.Proofs.YtdanaebhjkbfmaaGreat
open Go.RowKit
set_option linter.unusedVariables false
set_option linter.unusedSimpArgs false
theorem cell_far {w : World} {r j b o : Nat} {v : Value} (h : b ≠ r) : (w.setCell ⟨r, j, none⟩ v).cell? ⟨b, o, none⟩ = w.cell? ⟨b, o, none⟩ := by
  simp only [World.cell?, Below.heap_setCell w ⟨r, j, none⟩ v b h]
theorem RowAt.boxed {w : World} {k : IntKind} {ao : Option Addr} {len cap r : Nat} {zs : List Int} {n : Bool} {so : Option Addr} {l c : Nat} (h : RowAt w k ao len cap zs) (hf : Boxed w r n so l c) (x y : Value) : RowAt ((w.setCell ⟨r, 0, none⟩ x).setCell ⟨r, 1, none⟩ y) k ao len cap zs := by
  refine ⟨h.hlen, h.hcap, h.hnil, ?_⟩
  rcases h.hat with h0 | ⟨b, off, h1, hlt, h2⟩
  · exact Or.inl h0
  · refine Or.inr ⟨b, off, h1, by simpa [World.setCell] using hlt, fun t ht => ?_⟩
    have hc := h2 t ht
    rw [setCell_ne, setCell_ne]
    · exact hc
    · rintro ⟨e1, e2⟩
      simp only at e1 e2
      rw [e1, e2, hf.1] at hc; cases hc
    · rintro ⟨e1, e2⟩
      simp only at e1 e2
      rw [e1, e2, hf.2] at hc; cases hc
theorem boxed_far {w : World} {r s : Nat} {n : Bool} {so : Option Addr} {l c : Nat} (h : Boxed w r n so l c) (hs : r ≠ s) (x y : Value) : Boxed ((w.setCell ⟨s, 0, none⟩ x).setCell ⟨s, 1, none⟩ y) r n so l c :=
  ⟨by rw [cell_far hs, cell_far hs]; exact h.1, by rw [cell_far hs, cell_far hs]; exact h.2⟩
theorem frozen_far {w : World} {r j b o : Nat} {v : Value} : (w.setCell ⟨r, j, none⟩ v).frozen? ⟨b, o, none⟩ = w.frozen? ⟨b, o, none⟩ := by simp [go_sem]
theorem fresh_far {w : World} {r s : Nat} (h : Fresh w r) (hs : r ≠ s) (x y : Value) : Fresh ((w.setCell ⟨s, 0, none⟩ x).setCell ⟨s, 1, none⟩ y) r :=
  ⟨fun j => by rw [frozen_far, frozen_far]; exact h.1 j, by rw [cell_far hs, cell_far hs]; exact h.2.1, by rw [cell_far hs, cell_far hs]; exact h.2.2⟩
theorem boxed_new {w : World} {r : Nat} {n m : Bool} {so tp : Option Addr} {l c l' c' : Nat} (h : Boxed w r n so l c) : Boxed ((w.setCell ⟨r, 0, none⟩ (.bool m)).setCell ⟨r, 1, none⟩ (.slice tp l' c')) r m tp l' c' :=
  ⟨by simp [go_sem, h.1, h.2], by simp [go_sem, h.1, h.2]⟩
end Go.Proofs.YtdanaebhjkbfmaaGreat
