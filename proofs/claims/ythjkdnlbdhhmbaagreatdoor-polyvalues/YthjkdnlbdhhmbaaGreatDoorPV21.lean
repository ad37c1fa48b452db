/-
  A pack of walks and facts: UB, UF, UG.
-/
import Derived.Test.YthjkdnlbdhhmbaaGreatDoorPV20
set_option maxRecDepth 100000
set_option maxHeartbeats 40000000
set_option linter.unusedVariables false
set_option linter.unusedSimpArgs false
namespace Go.Proofs.YthjkdnlbdhhmbaaGreatDoor
open Go.RowKit
def rsOf (l : List Int) : List (Bool × List Int) := l.map fun a => (sgB a, mag a.natAbs)
theorem rsOf_len (l : List Int) : (rsOf l).length = l.length := by simp [rsOf]
theorem rsOf_get (l : List Int) (t : Nat) (h : t < (rsOf l).length) : (rsOf l)[t] = (sgB (dig l t), mag (dig l t).natAbs) := by
 have h' : t < l.length := by rwa [rsOf_len] at h
 have e : dig l t = l[t] := by unfold dig; rw [List.getD_eq_getElem?_getD, List.getElem?_eq_getElem h']; rfl
 rw [e]; simp [rsOf]
theorem lim_small (a : Int) (h : 0 ≤ a ∧ a < 18446744073709551616) : lim a ≤ 1 := mag_len_one (by omega)
theorem plead_any (ao : Option Addr) (len cap : Nat) (p : List Int) (w : World) (hp : PolyAt w ao len cap p) (hl : len ≤ 1000) :
  Calls Tryz.prog 39 #[.slice ao len cap] w fun e w' => RefInt w w' e (dig p (len - 1)) := by
 have hbW : Below w.heap.size w (w.alloc (.cells #[.bool false, .slice none 0 0] 28)) := (Below.refl _ _).alloc (Nat.le_refl _) _
 by_cases h0 : len = 0
 ·
  subst h0
  have HZ : Hid (dig p (0 - 1) = 0) := dig_past (by rw [← hp.hlen]; omega)
  clear hp
  go_enter Tryz.func39, Tryz.ntmps39
  go_wp2_with (go_at_call 42; refine (rfrom_any 0 _ (by decide) (by decide)).mono ?_; rintro e w1 ⟨n1, ao1, l1, c1, rfl, hs, ho, hb1⟩; have HS : Hid (IntAt w1 n1 ao1 l1 c1 0) := ho.int hs; clear hs ho; have hf := (Fresh.new w).later hb1 (by simp); obtain ⟨g5, g3, g4⟩ := hf)
  exact bodyPost_ret (v := .agg #[.bool n1, .slice ao1 l1 c1]) (by simp [results, Tryz.results39, go_sem, g3, g4]) rfl
   ⟨_, _, _, _, rfl, ⟨by rw [HZ.out]; exact HS.out.sg, by rw [HZ.out]; exact HS.out.row.kept ⟨g5, g3, g4⟩ _ _⟩, below_store (bnext hbW hb1) (Nat.le_refl _) _ _⟩
 ·
  obtain ⟨k, rfl⟩ : ∃ k, len = k + 1 := ⟨len - 1, by omega⟩
  obtain ⟨b, off, n1, ao1, l1, c1, rfl, h0', h1', hi⟩ := hp.at (show k < k + 1 by omega)
  have h0 := (hbW.cell (p := ⟨b, off + k * 2, none⟩) (cell_lt h0')).trans h0'
  have h1 := (hbW.cell (p := ⟨b, off + k * 2 + 1, none⟩) (cell_lt h1')).trans h1'
  have hn : (((k + 1 : Nat) : Int) == 0) = false := by simp; omega
  have hki : ((k + 1 : Nat) : Int) - 1 = (k : Int) := by omega
  have hk1 : (k : Int) < ((k + 1 : Nat) : Int) := by omega
  have hk2 : (0 : Int) ≤ (k : Int) := by omega
  have HI : Hid (IntAt w n1 ao1 l1 c1 (dig p k)) := hi
  clear hp hi h0' h1'
  go_enter Tryz.func39, Tryz.ntmps39
  go_wp2
  exact bodyPost_ret (v := .agg #[.bool n1, .slice ao1 l1 c1]) (by simp [results, Tryz.results39, go_sem]) rfl
   ⟨_, _, _, _, rfl, HI.out.later ((Below.refl _ _).alloc (Nat.le_refl _) _), (Below.refl _ _).alloc (Nat.le_refl _) _⟩
theorem plplus_any (na nb : Bool) (ao bo : Option Addr) (la ca lb cb : Nat) (a b : Int) (w : World) (hx : IntAt w na ao la ca a) (hy : IntAt w nb bo lb cb b) (hl : la ≤ 2147483648) (hl' : lb ≤ 2147483648) :
  Calls Tryz.prog 55 #[.agg #[.bool na, .slice ao la ca], .agg #[.bool nb, .slice bo lb cb]] w fun e w' => NewInt w w' e (a + b) := by
 obtain ⟨W, hT⟩ := Two3.mk' w na nb ao bo la ca lb cb
 have hsz := hT.size
 have hRx := hx.later hT.below
 have hRy := hy.later hT.below
 clear hx hy
 go_enter Tryz.func55, Tryz.ntmps55
 go_wp2_with (first
  | (go_at_call 86; rw [← hT.eq]; refine (add_any na nb ao bo la ca lb cb a b _ hRx hRy (by omega) (by omega)).mono ?_; rintro e w1 ⟨n1, ao1, l1, c1, rfl, hsg1, ho1, hb1⟩; have HS : Hid (n1 = sgB (a + b)) := hsg1; clear hsg1; have hs1 := hb1.size; have hbA : Below W.heap.size W (w1.alloc (.cells #[.bool n1, .slice ao1 l1 c1] 28)) := hb1.trans ((Below.refl _ _).alloc hs1 _); obtain ⟨g5, g3, g4⟩ := hT.r.later hbA (by omega)))
 exact bodyPost_ret (v := .agg #[.bool n1, .slice ao1 l1 c1]) (by simp [results, Tryz.results55, go_sem, g3, g4]) rfl
  ⟨_, _, _, _, rfl, HS.out, (((ho1.later ((Below.refl _ _).alloc (Nat.le_refl _) _)).store (by omega) _ _).mono (by omega)), below_store (bnext hT.below hbA) (by omega) _ _⟩
theorem pltimes_any (na nb : Bool) (ao bo : Option Addr) (la ca lb cb : Nat) (a b : Int) (w : World) (hx : IntAt w na ao la ca a) (hy : IntAt w nb bo lb cb b) (hl : la ≤ 2147483648) (hl' : lb ≤ 2147483648) :
  Calls Tryz.prog 56 #[.agg #[.bool na, .slice ao la ca], .agg #[.bool nb, .slice bo lb cb]] w fun e w' => NewInt w w' e (a * b) := by
 obtain ⟨W, hT⟩ := Two3.mk' w na nb ao bo la ca lb cb
 have hsz := hT.size
 have hRx := hx.later hT.below
 have hRy := hy.later hT.below
 clear hx hy
 go_enter Tryz.func56, Tryz.ntmps56
 go_wp2_with (first
  | (go_at_call 87; rw [← hT.eq]; refine (bmul_any na nb ao bo la ca lb cb a b _ hRx hRy (by omega) (by omega)).mono ?_; rintro e w1 ⟨n1, ao1, l1, c1, rfl, hsg1, ho1, hb1⟩; have HS : Hid (n1 = sgB (a * b)) := hsg1; clear hsg1; have hs1 := hb1.size; have hbA : Below W.heap.size W (w1.alloc (.cells #[.bool n1, .slice ao1 l1 c1] 28)) := hb1.trans ((Below.refl _ _).alloc hs1 _); obtain ⟨g5, g3, g4⟩ := hT.r.later hbA (by omega)))
 exact bodyPost_ret (v := .agg #[.bool n1, .slice ao1 l1 c1]) (by simp [results, Tryz.results56, go_sem, g3, g4]) rfl
  ⟨_, _, _, _, rfl, HS.out, (((ho1.later ((Below.refl _ _).alloc (Nat.le_refl _) _)).store (by omega) _ _).mono (by omega)), below_store (bnext hT.below hbA) (by omega) _ _⟩
theorem room_any (n : Nat) (w : World) (hn : n ≤ 1048576) :
  Calls Tryz.prog 96 #[.int .i64 (n : Int)] w fun e w' => e = .returned (.slice (some ⟨w.heap.size, 0, none⟩) n n) ∧ (∀ B, PBlkO B w' w.heap.size (List.replicate n 0)) ∧ w.heap.size < w'.heap.size ∧ Below w.heap.size w w' := by
 obtain ⟨i0, hi, hz0, hz1, hz2⟩ := info_parts infoInt
 have b1 : Hid (i0.bytes * n ≤ 281474976710656) := by show _ ≤ _; rw [hz2]; omega
 have b2 : Hid (n ≤ maxLen) := by show _ ≤ _; unfold maxLen; omega
 go_enter Tryz.func96, Tryz.ntmps96
 go_wp2_with (at_make; refine wpList_make_full _ rfl (.tmp 3) (.tmp 3) 24 rfl w.heap.size 28 i0 (.agg #[.bool false, .slice none 0 0]) 2 Tryz.underlying24 hi hz0 hz1 .i64 .i64 _ _ n rfl rfl rfl rfl b1.out b2.out (Nat.le_refl _) ?_; intro w1 hown1 hgrow1)
 go_ret
 exact ⟨rfl, fun B => (pblkO_of_made hown1).1, (pblkO_of_made (C := 0) hown1).2, grown_below hgrow1⟩
theorem trimmed_any (ao : Option Addr) (len cap : Nat) (p : List Int) (w : World) (hp : PolyAt w ao len cap p) (hl : len ≤ 1048576) :
  Calls Tryz.prog 97 #[.slice ao len cap] w fun e w' => ∃ ao' m, m = trimN p p.length ∧ e = .returned (.slice ao' m m) ∧ (m = 0 → ao' = none) ∧ (0 < m → ao' = ao) ∧ Below w.heap.size w w' := by
 have HP : Hid (PolyAt w ao len cap p ∧ len = p.length) := ⟨hp, hp.hlen⟩
 have hcap := hp.hcap
 have hnil := hp.hnil
 clear hp
 go_enter Tryz.func97, Tryz.ntmps97
 go_wp2
 go_loopw [3] (fun i wr => ∃ k : Nat, k ≤ len ∧ i = .int .i64 (k : Int) ∧ Below w.heap.size w wr ∧ trimN p k = trimN p len) (fun i _ => (intOf i).toNat)
 case atStart => exact ⟨len, Nat.le_refl _, rfl, Below.refl _ _, rfl⟩
 case round =>
  obtain ⟨k, hk, rfl, hbel, htr⟩ := hrel
  have HT : Hid (trimN p k = trimN p len) := htr
  clear htr
  have y2 : (k : Int) ≤ (cap : Int) := by omega
  have y1 : (0 : Int) ≤ (k : Int) := by omega
  by_cases hk0 : k = 0
  ·
   subst hk0
   go_wp2
   go_ret
   exact ⟨none, 0, by rw [← HP.out.2, ← HT.out]; rfl, rfl, fun _ => rfl, fun h => absurd h (by omega), hbel⟩
  ·
   obtain ⟨i, rfl⟩ : ∃ i, k = i + 1 := ⟨k - 1, by omega⟩
   have hpI : (0 : Int) < ((i + 1 : Nat) : Int) := by omega
   have hpE : (((i + 1 : Nat) : Int) == 0) = false := by simp; omega
   have hidx : ((i + 1 : Nat) : Int) - 1 = (i : Int) := by omega
   have hil : (i : Int) < (len : Int) := by omega
   have hi0 : (0 : Int) ≤ (i : Int) := by omega
   obtain ⟨b, off, n1, ao1, l1, c1, rfl, e0, e1, hi1⟩ := (HP.out.1.later hbel).at (show i < len by omega)
   have HI : Hid (l1 = lim (dig p i)) := hi1.lim
   clear hi1 hk0
   by_cases hz : l1 = 0
   ·
    have hcon : ∀ W', Calls Tryz.prog 51 #[.agg #[.bool n1, .slice ao1 l1 c1]] W' fun e w' => e = .returned (.bool true) ∧ Below W'.heap.size W' w' := fun W' => isZero_any n1 ao1 l1 c1 W' true (by simp; omega)
    have HZ : Hid (dig p i = 0) := zero_of_lim (by rw [← HI.out]; exact hz)
    clear hz
    go_wp2_with (go_at_call 51; refine (hcon _).mono ?_; rintro e w1 ⟨rfl, hb1⟩)
    go_roundw
    case rel => exact ⟨i, by omega, by go_num, bnext hbel hb1, by rw [← HT.out, trimN_zero HZ.out]⟩
    case measure => simp [intOf]
   ·
    have hcon : ∀ W', Calls Tryz.prog 51 #[.agg #[.bool n1, .slice ao1 l1 c1]] W' fun e w' => e = .returned (.bool false) ∧ Below W'.heap.size W' w' := fun W' => isZero_any n1 ao1 l1 c1 W' false (by simp; omega)
    have HZ : Hid (dig p i ≠ 0) := fun e => hz (by rw [HI.out, e]; exact lim_zero)
    clear hz
    go_wp2_with (go_at_call 51; refine (hcon _).mono ?_; rintro e w1 ⟨rfl, hb1⟩)
    go_ret
    exact ⟨_, i + 1, by rw [← HP.out.2, ← HT.out, trimN_keep HZ.out], rfl, fun h => absurd h (by omega), fun _ => rfl, bnext hbel hb1⟩
def rv (rs : List (Bool × List Int)) (t : Nat) : Bool × List Int := rs.getD t (false, [])
theorem rv_eq {rs : List (Bool × List Int)} {t : Nat} (h : t < rs.length) : rv rs t = rs[t] := by unfold rv; rw [List.getD_eq_getElem?_getD, List.getElem?_eq_getElem h]; rfl
theorem RawsAt.at {w : World} {ao : Option Addr} {len cap k : Nat} {rs : List (Bool × List Int)} (h : RawsAt w ao len cap rs) (hk : k < len) : ∃ b off n1 ao1 l1 c1, ao = some ⟨b, off, none⟩ ∧ w.cell? ⟨b, off + k * 2, none⟩ = some (.bool n1) ∧ w.cell? ⟨b, off + k * 2 + 1, none⟩ = some (.slice ao1 l1 c1) ∧ n1 = (rv rs k).1 ∧ RowAt w .u64 ao1 l1 c1 (rv rs k).2 ∧ Wd 18446744073709551616 (rv rs k).2 := by
 have hk2 : k < rs.length := by rw [← h.hlen]; exact hk
 obtain ⟨b, off, h1, hat⟩ := h.get (by omega)
 obtain ⟨ao1, l1, c1, ⟨h0, h1'⟩, hr, hw⟩ := hat k hk2
 rw [rv_eq hk2]
 exact ⟨b, off, _, ao1, l1, c1, h1, h0, h1', rfl, hr, hw⟩
theorem pcheck_is (ao : Option Addr) (len cap : Nat) (rs : List (Bool × List Int)) (w : World) (hr : RawsAt w ao len cap rs) (hl : len ≤ 1000) (hlim : ∀ t, (rv rs t).2.length ≤ 100000) (c : Int) (hc : (if pmayB len rs then 0 else 50 : Int) = c) :
  Calls Tryz.prog 27 #[.slice ao len cap] w fun e w' => e = .returned (.int .i64 c) ∧ Below w.heap.size w w' := by
 have hl1 : ¬ ((1025 : Int) < (len : Int)) := by omega
 have HR : Hid (RawsAt w ao len cap rs ∧ (∀ t, (rv rs t).2.length ≤ 100000) ∧ len = rs.length) := ⟨hr, hlim, hr.hlen⟩
 clear hr hlim
 by_cases h0 : len = 0
 ·
  subst h0
  obtain rfl : rs = [] := List.eq_nil_of_length_eq_zero HR.out.2.2.symm
  obtain rfl : c = 0 := by rw [← hc]; rfl
  clear hc
  go_enter Tryz.func27, Tryz.ntmps27
  go_wp2
  go_loopw [24] (fun i wr => i = .int .i64 0 ∧ wr = w) (fun i _ => 0)
  case atStart => exact ⟨rfl, rfl⟩
  case round =>
   obtain ⟨rfl, rfl⟩ := hrel
   go_wp2
   go_ret
   exact ⟨rfl, Below.refl _ _⟩
 ·
  obtain ⟨b, off, n1, ao1, l1, c1, rfl, h1, h2, hn1, hrow, hw1⟩ := HR.out.1.at (show len - 1 < len by omega)
  clear hn1 hw1
  have hidx : (len : Int) - 1 = ((len - 1 : Nat) : Int) := by omega
  have hk1 : len - 1 < len := by omega
  have hpos : (0 : Int) < (len : Int) := by omega
  have hlr : l1 = (rv rs (len - 1)).2.length := hrow.hlen
  clear hrow
  by_cases hz : l1 = 0
  ·
   have hcz : ∀ W', Calls Tryz.prog 51 #[.agg #[.bool n1, .slice ao1 l1 c1]] W' fun e w' => e = .returned (.bool true) ∧ Below W'.heap.size W' w' := fun W' => isZero_any n1 ao1 l1 c1 W' true (by simp; omega)
   obtain rfl : c = 50 := by
    rw [← hc, if_neg]
    intro hm
    have := (pmayB_true hm).2.2 (by omega)
    exact this (List.eq_nil_of_length_eq_zero (by show (rv rs (len - 1)).2.length = 0; omega))
   clear hc hz hlr h0
   go_enter Tryz.func27, Tryz.ntmps27
   go_wp2_with (go_at_call 51; refine (hcz _).mono ?_; rintro e w1 ⟨rfl, hb1⟩)
   go_ret
   exact ⟨rfl, hb1⟩
  ·
   have hcz : ∀ W', Calls Tryz.prog 51 #[.agg #[.bool n1, .slice ao1 l1 c1]] W' fun e w' => e = .returned (.bool false) ∧ Below W'.heap.size W' w' := fun W' => isZero_any n1 ao1 l1 c1 W' false (by simp; omega)
   have HC : Hid ((if rs.all (fun r => mayB r.1 r.2) then 0 else 50 : Int) = c) := by
    show _ = _
    rw [← hc]
    have e1 : (rs.getD (len - 1) (false, [])).2 ≠ [] := fun e => hz (by rw [hlr]; show (rs.getD (len - 1) (false, [])).2.length = 0; rw [e]; rfl)
    have e2 : pmayB len rs = rs.all (fun r => mayB r.1 r.2) := by
     unfold pmayB
     rw [decide_eq_true (show len ≤ 1025 by omega), decide_eq_true e1, Bool.or_true, Bool.and_true, Bool.true_and]
    rw [e2]
   clear hc hz hlr h0
   go_enter Tryz.func27, Tryz.ntmps27
   go_wp2_with (go_at_call 51; refine (hcz _).mono ?_; rintro e w1 ⟨rfl, hb1⟩)
   go_loopw [24] (fun i wr => ∃ k : Nat, k ≤ len ∧ i = .int .i64 k ∧ Below w.heap.size w wr ∧ ∀ t, (ht : t < rs.length) → t < k → mayB (rs[t]).1 (rs[t]).2 = true) (fun i _ => len - (intOf i).toNat)
   case atStart => exact ⟨0, Nat.zero_le _, rfl, hb1, fun t _ h => absurd h (by omega)⟩
   case round =>
    clear h1 h2
    obtain ⟨k, hk, rfl, hbel, hz⟩ := hrel
    have HZ : Hid (∀ t, (ht : t < rs.length) → t < k → mayB (rs[t]).1 (rs[t]).2 = true) := hz
    clear hz
    by_cases hlt : k < len
    ·
     obtain ⟨b', off', n2, ao2, l2, c2, he, h1, h2, hn2, hrow, hw2⟩ := (HR.out.1.later hbel).at hlt
     clear hw2
     cases he
     have hA : Below wr.heap.size wr (wr.alloc (.cells #[.bool n2, .slice ao2 l2 c2] 28)) := (Below.refl _ _).alloc (Nat.le_refl _) _
     have hl2 : l2 ≤ 100000 := by rw [hrow.hlen]; exact HR.out.2.1 k
     have hkr : k < rs.length := by rw [← HR.out.2.2]; exact hlt
     obtain ⟨d, hd⟩ : ∃ d, mayB n2 (rv rs k).2 = d := ⟨_, rfl⟩
     have HD : Hid (mayB (rv rs k).1 (rv rs k).2 = d) := by show _ = d; rw [← hn2]; exact hd
     have hcon : ∀ c', (if d then 0 else 10 : Int) = c' → Calls Tryz.prog 52 #[.agg #[.bool n2, .slice ao2 l2 c2]] (wr.alloc (.cells #[.bool n2, .slice ao2 l2 c2] 28)) fun e w' => e = .returned (.int .i64 c') ∧ Below (wr.alloc (.cells #[.bool n2, .slice ao2 l2 c2] 28)).heap.size (wr.alloc (.cells #[.bool n2, .slice ao2 l2 c2] 28)) w' := fun c' hc' => check_at n2 ao2 l2 c2 _ _ (hrow.later hA) (by omega) c' (by rw [hd]; exact hc')
     have HKR : Hid (k < rs.length) := hkr
     clear hrow hn2 hd hkr
     cases d
     ·
      have hcon := hcon 10 rfl
      obtain rfl : c = 50 := by
       rw [← HC.out, if_neg]
       rw [List.all_eq_true]
       intro h
       have := h _ (List.getElem_mem HKR.out)
       rw [← rv_eq HKR.out, HD.out] at this
       cases this
      go_wp2_with (go_at_call 52; refine hcon.mono ?_; rintro e w2 ⟨rfl, hb2⟩)
      go_ret
      exact ⟨rfl, bnext hbel (bnext hA hb2)⟩
     ·
      have hcon := hcon 0 rfl
      go_wp2_with (go_at_call 52; refine hcon.mono ?_; rintro e w2 ⟨rfl, hb2⟩)
      go_roundw
      case rel => exact ⟨k + 1, by omega, by go_num, bnext hbel (bnext hA hb2), fun t ht htk => by
       by_cases e : t = k
       ·
        subst e; rw [← rv_eq ht]; exact HD.out
       ·
        exact HZ.out t ht (by omega)⟩
      case measure => simp [intOf]; omega
    ·
     obtain rfl : k = len := by omega
     obtain rfl : c = 0 := by
      rw [← HC.out, if_pos]
      rw [List.all_eq_true]
      intro r hr
      obtain ⟨t, ht, rfl⟩ := List.getElem_of_mem hr
      exact HZ.out t ht (by rw [HR.out.2.2]; exact ht)
     go_wp2
     go_ret
     exact ⟨rfl, hbel⟩
end Go.Proofs.YthjkdnlbdhhmbaaGreatDoor
