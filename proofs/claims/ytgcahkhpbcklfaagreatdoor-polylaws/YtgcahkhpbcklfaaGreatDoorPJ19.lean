/-
  A pack of walks and facts: UG, UH.
-/
import Derived.Test.YtgcahkhpbcklfaaGreatDoorPJ18
set_option maxRecDepth 100000
set_option maxHeartbeats 40000000
set_option linter.unusedVariables false
set_option linter.unusedSimpArgs false
namespace Go.Proofs.YtgcahkhpbcklfaaGreatDoor
open Go.RowKit
theorem plplus_any (na nb : Bool) (ao bo : Option Addr) (la ca lb cb : Nat) (a b : Int) (w : World) (hx : IntAt w na ao la ca a) (hy : IntAt w nb bo lb cb b) (hl : la ≤ 2147483648) (hl' : lb ≤ 2147483648) :
  Calls Tryz.prog 53 #[.agg #[.bool na, .slice ao la ca], .agg #[.bool nb, .slice bo lb cb]] w fun e w' => NewInt w w' e (a + b) := by
 obtain ⟨W, hT⟩ := Two3.mk' w na nb ao bo la ca lb cb
 have hsz := hT.size
 have hRx := hx.later hT.below
 have hRy := hy.later hT.below
 clear hx hy
 go_enter Tryz.func53, Tryz.ntmps53
 go_wp2_with (first
  | (go_at_call 81; rw [← hT.eq]; refine (add_any na nb ao bo la ca lb cb a b _ hRx hRy (by omega) (by omega)).mono ?_; rintro e w1 ⟨n1, ao1, l1, c1, rfl, hsg1, ho1, hb1⟩; have HS : Hid (n1 = sgB (a + b)) := hsg1; clear hsg1; have hs1 := hb1.size; have hbA : Below W.heap.size W (w1.alloc (.cells #[.bool n1, .slice ao1 l1 c1] 28)) := hb1.trans ((Below.refl _ _).alloc hs1 _); obtain ⟨g5, g3, g4⟩ := hT.r.later hbA (by omega)))
 exact bodyPost_ret (v := .agg #[.bool n1, .slice ao1 l1 c1]) (by simp [results, Tryz.results53, go_sem, g3, g4]) rfl
  ⟨_, _, _, _, rfl, HS.out, (((ho1.later ((Below.refl _ _).alloc (Nat.le_refl _) _)).store (by omega) _ _).mono (by omega)), below_store (bnext hT.below hbA) (by omega) _ _⟩
theorem plminus_any (na nb : Bool) (ao bo : Option Addr) (la ca lb cb : Nat) (a b : Int) (w : World) (hx : IntAt w na ao la ca a) (hy : IntAt w nb bo lb cb b) (hl : la ≤ 2147483648) (hl' : lb ≤ 2147483648) :
  Calls Tryz.prog 89 #[.agg #[.bool na, .slice ao la ca], .agg #[.bool nb, .slice bo lb cb]] w fun e w' => NewInt w w' e (a - b) := by
 obtain ⟨W, hT⟩ := Two3.mk' w na nb ao bo la ca lb cb
 have hsz := hT.size
 have hRx := hx.later hT.below
 have hRy := hy.later hT.below
 clear hx hy
 go_enter Tryz.func89, Tryz.ntmps89
 go_wp2_with (first
  | (go_at_call 100; rw [← hT.eq]; refine (sub_any na nb ao bo la ca lb cb a b _ hRx hRy (by omega) (by omega)).mono ?_; rintro e w1 ⟨n1, ao1, l1, c1, rfl, hsg1, ho1, hb1⟩; have HS : Hid (n1 = sgB (a - b)) := hsg1; clear hsg1; have hs1 := hb1.size; have hbA : Below W.heap.size W (w1.alloc (.cells #[.bool n1, .slice ao1 l1 c1] 28)) := hb1.trans ((Below.refl _ _).alloc hs1 _); obtain ⟨g5, g3, g4⟩ := hT.r.later hbA (by omega)))
 exact bodyPost_ret (v := .agg #[.bool n1, .slice ao1 l1 c1]) (by simp [results, Tryz.results89, go_sem, g3, g4]) rfl
  ⟨_, _, _, _, rfl, HS.out, (((ho1.later ((Below.refl _ _).alloc (Nat.le_refl _) _)).store (by omega) _ _).mono (by omega)), below_store (bnext hT.below hbA) (by omega) _ _⟩
theorem pltimes_any (na nb : Bool) (ao bo : Option Addr) (la ca lb cb : Nat) (a b : Int) (w : World) (hx : IntAt w na ao la ca a) (hy : IntAt w nb bo lb cb b) (hl : la ≤ 2147483648) (hl' : lb ≤ 2147483648) :
  Calls Tryz.prog 58 #[.agg #[.bool na, .slice ao la ca], .agg #[.bool nb, .slice bo lb cb]] w fun e w' => NewInt w w' e (a * b) := by
 obtain ⟨W, hT⟩ := Two3.mk' w na nb ao bo la ca lb cb
 have hsz := hT.size
 have hRx := hx.later hT.below
 have hRy := hy.later hT.below
 clear hx hy
 go_enter Tryz.func58, Tryz.ntmps58
 go_wp2_with (first
  | (go_at_call 87; rw [← hT.eq]; refine (bmul_any na nb ao bo la ca lb cb a b _ hRx hRy (by omega) (by omega)).mono ?_; rintro e w1 ⟨n1, ao1, l1, c1, rfl, hsg1, ho1, hb1⟩; have HS : Hid (n1 = sgB (a * b)) := hsg1; clear hsg1; have hs1 := hb1.size; have hbA : Below W.heap.size W (w1.alloc (.cells #[.bool n1, .slice ao1 l1 c1] 28)) := hb1.trans ((Below.refl _ _).alloc hs1 _); obtain ⟨g5, g3, g4⟩ := hT.r.later hbA (by omega)))
 exact bodyPost_ret (v := .agg #[.bool n1, .slice ao1 l1 c1]) (by simp [results, Tryz.results58, go_sem, g3, g4]) rfl
  ⟨_, _, _, _, rfl, HS.out, (((ho1.later ((Below.refl _ _).alloc (Nat.le_refl _) _)).store (by omega) _ _).mono (by omega)), below_store (bnext hT.below hbA) (by omega) _ _⟩
theorem plat_any (ao : Option Addr) (len cap k : Nat) (p : List Int) (w : World) (hp : PolyAt w ao len cap p) :
  Calls Tryz.prog 80 #[.slice ao len cap, .int .i64 (k : Int)] w fun e w' => RefInt w w' e (dig p k) := by
 have hbW : Below w.heap.size w (w.alloc (.cells #[.bool false, .slice none 0 0] 28)) := (Below.refl _ _).alloc (Nat.le_refl _) _
 by_cases hk : k < len
 ·
  obtain ⟨b, off, n1, ao1, l1, c1, rfl, h0', h1', hi⟩ := hp.at hk
  have h0 := (hbW.cell (p := ⟨b, off + k * 2, none⟩) (cell_lt h0')).trans h0'
  have h1 := (hbW.cell (p := ⟨b, off + k * 2 + 1, none⟩) (cell_lt h1')).trans h1'
  have hk1 : (k : Int) < (len : Int) := by omega
  have HI : Hid (IntAt w n1 ao1 l1 c1 (dig p k)) := hi
  clear hp hi hk h0' h1'
  go_enter Tryz.func80, Tryz.ntmps80
  go_wp2
  exact bodyPost_ret (v := .agg #[.bool n1, .slice ao1 l1 c1]) (by simp [results, Tryz.results80, go_sem]) rfl
   ⟨_, _, _, _, rfl, HI.out.later ((Below.refl _ _).alloc (Nat.le_refl _) _), (Below.refl _ _).alloc (Nat.le_refl _) _⟩
 ·
  have hk1 : ¬ (k : Int) < (len : Int) := by omega
  have HZ : Hid (dig p k = 0) := dig_past (by rw [← hp.hlen]; omega)
  clear hp hk
  go_enter Tryz.func80, Tryz.ntmps80
  go_wp2
  exact bodyPost_ret (v := .agg #[.bool false, .slice none 0 0]) (by simp [results, Tryz.results80, go_sem]) rfl
   ⟨_, _, _, _, rfl, (by rw [HZ.out]; exact ⟨rfl, RowAt.nilRow _ _⟩), (Below.refl _ _).alloc (Nat.le_refl _) _⟩
theorem room_any (n : Nat) (w : World) (hn : n ≤ 1048576) :
  Calls Tryz.prog 67 #[.int .i64 (n : Int)] w fun e w' => e = .returned (.slice (some ⟨w.heap.size, 0, none⟩) n n) ∧ (∀ B, PBlkO B w' w.heap.size (List.replicate n 0)) ∧ w.heap.size < w'.heap.size ∧ Below w.heap.size w w' := by
 obtain ⟨i0, hi, hz0, hz1, hz2⟩ := info_parts infoInt
 have b1 : Hid (i0.bytes * n ≤ 281474976710656) := by show _ ≤ _; rw [hz2]; omega
 have b2 : Hid (n ≤ maxLen) := by show _ ≤ _; unfold maxLen; omega
 go_enter Tryz.func67, Tryz.ntmps67
 go_wp2_with (at_make; refine wpList_make_full _ rfl (.tmp 3) (.tmp 3) 24 rfl w.heap.size 28 i0 (.agg #[.bool false, .slice none 0 0]) 2 Tryz.underlying24 hi hz0 hz1 .i64 .i64 _ _ n rfl rfl rfl rfl b1.out b2.out (Nat.le_refl _) ?_; intro w1 hown1 hgrow1)
 go_ret
 exact ⟨rfl, fun B => (pblkO_of_made hown1).1, (pblkO_of_made (C := 0) hown1).2, grown_below hgrow1⟩
theorem trimmed_any (ao : Option Addr) (len cap : Nat) (p : List Int) (w : World) (hp : PolyAt w ao len cap p) (hl : len ≤ 1048576) :
  Calls Tryz.prog 68 #[.slice ao len cap] w fun e w' => ∃ ao' m, m = trimN p p.length ∧ e = .returned (.slice ao' m m) ∧ (m = 0 → ao' = none) ∧ (0 < m → ao' = ao) ∧ Below w.heap.size w w' := by
 have HP : Hid (PolyAt w ao len cap p ∧ len = p.length) := ⟨hp, hp.hlen⟩
 have hcap := hp.hcap
 have hnil := hp.hnil
 clear hp
 go_enter Tryz.func68, Tryz.ntmps68
 go_wp2
 go_loopw [3] (fun i wr => ∃ k : Nat, k ≤ len ∧ i = .int .i64 (k : Int) ∧ Below w.heap.size w wr ∧ trimN p k = trimN p len) (fun i _ => (intOf i).toNat)
 case atStart => exact ⟨len, Nat.le_refl _, rfl, Below.refl _ _, rfl⟩
 case round =>
  obtain ⟨k, hk, rfl, hbel, htr⟩ := hrel
  have HT : Hid (trimN p k = trimN p len) := htr
  clear htr
  have y2 : (k : Int) ≤ (cap : Int) := by omega
  have y1 : (0 : Int) ≤ (k : Int) := by omega
  by_cases hk0 : k = 0
  ·
   subst hk0
   go_wp2
   go_ret
   exact ⟨none, 0, by rw [← HP.out.2, ← HT.out]; rfl, rfl, fun _ => rfl, fun h => absurd h (by omega), hbel⟩
  ·
   obtain ⟨i, rfl⟩ : ∃ i, k = i + 1 := ⟨k - 1, by omega⟩
   have hpI : (0 : Int) < ((i + 1 : Nat) : Int) := by omega
   have hpE : (((i + 1 : Nat) : Int) == 0) = false := by simp; omega
   have hidx : ((i + 1 : Nat) : Int) - 1 = (i : Int) := by omega
   have hil : (i : Int) < (len : Int) := by omega
   have hi0 : (0 : Int) ≤ (i : Int) := by omega
   obtain ⟨b, off, n1, ao1, l1, c1, rfl, e0, e1, hi1⟩ := (HP.out.1.later hbel).at (show i < len by omega)
   have HI : Hid (l1 = lim (dig p i)) := hi1.lim
   clear hi1 hk0
   by_cases hz : l1 = 0
   ·
    have hcon : ∀ W', Calls Tryz.prog 54 #[.agg #[.bool n1, .slice ao1 l1 c1]] W' fun e w' => e = .returned (.bool true) ∧ Below W'.heap.size W' w' := fun W' => isZero_any n1 ao1 l1 c1 W' true (by simp; omega)
    have HZ : Hid (dig p i = 0) := zero_of_lim (by rw [← HI.out]; exact hz)
    clear hz
    go_wp2_with (go_at_call 54; refine (hcon _).mono ?_; rintro e w1 ⟨rfl, hb1⟩)
    go_roundw
    case rel => exact ⟨i, by omega, by go_num, bnext hbel hb1, by rw [← HT.out, trimN_zero HZ.out]⟩
    case measure => simp [intOf]
   ·
    have hcon : ∀ W', Calls Tryz.prog 54 #[.agg #[.bool n1, .slice ao1 l1 c1]] W' fun e w' => e = .returned (.bool false) ∧ Below W'.heap.size W' w' := fun W' => isZero_any n1 ao1 l1 c1 W' false (by simp; omega)
    have HZ : Hid (dig p i ≠ 0) := fun e => hz (by rw [HI.out, e]; exact lim_zero)
    clear hz
    go_wp2_with (go_at_call 54; refine (hcon _).mono ?_; rintro e w1 ⟨rfl, hb1⟩)
    go_ret
    exact ⟨_, i + 1, by rw [← HP.out.2, ← HT.out, trimN_keep HZ.out], rfl, fun h => absurd h (by omega), fun _ => rfl, bnext hbel hb1⟩
def rv (rs : List (Bool × List Int)) (t : Nat) : Bool × List Int := rs.getD t (false, [])
theorem rv_eq {rs : List (Bool × List Int)} {t : Nat} (h : t < rs.length) : rv rs t = rs[t] := by unfold rv; rw [List.getD_eq_getElem?_getD, List.getElem?_eq_getElem h]; rfl
theorem RawsAt.at {w : World} {ao : Option Addr} {len cap k : Nat} {rs : List (Bool × List Int)} (h : RawsAt w ao len cap rs) (hk : k < len) : ∃ b off n1 ao1 l1 c1, ao = some ⟨b, off, none⟩ ∧ w.cell? ⟨b, off + k * 2, none⟩ = some (.bool n1) ∧ w.cell? ⟨b, off + k * 2 + 1, none⟩ = some (.slice ao1 l1 c1) ∧ n1 = (rv rs k).1 ∧ RowAt w .u64 ao1 l1 c1 (rv rs k).2 ∧ Wd 18446744073709551616 (rv rs k).2 := by
 have hk2 : k < rs.length := by rw [← h.hlen]; exact hk
 obtain ⟨b, off, h1, hat⟩ := h.get (by omega)
 obtain ⟨ao1, l1, c1, ⟨h0, h1'⟩, hr, hw⟩ := hat k hk2
 rw [rv_eq hk2]
 exact ⟨b, off, _, ao1, l1, c1, h1, h0, h1', rfl, hr, hw⟩
theorem pcheck_is (ao : Option Addr) (len cap : Nat) (rs : List (Bool × List Int)) (w : World) (hr : RawsAt w ao len cap rs) (hl : len ≤ 1000) (hlim : ∀ t, (rv rs t).2.length ≤ 100000) (c : Int) (hc : (if pmayB len rs then 0 else 50 : Int) = c) :
  Calls Tryz.prog 33 #[.slice ao len cap] w fun e w' => e = .returned (.int .i64 c) ∧ Below w.heap.size w w' := by
 have hl1 : ¬ ((1025 : Int) < (len : Int)) := by omega
 have HR : Hid (RawsAt w ao len cap rs ∧ (∀ t, (rv rs t).2.length ≤ 100000) ∧ len = rs.length) := ⟨hr, hlim, hr.hlen⟩
 clear hr hlim
 by_cases h0 : len = 0
 ·
  subst h0
  obtain rfl : rs = [] := List.eq_nil_of_length_eq_zero HR.out.2.2.symm
  obtain rfl : c = 0 := by rw [← hc]; rfl
  clear hc
  go_enter Tryz.func33, Tryz.ntmps33
  go_wp2
  go_loopw [24] (fun i wr => i = .int .i64 0 ∧ wr = w) (fun i _ => 0)
  case atStart => exact ⟨rfl, rfl⟩
  case round =>
   obtain ⟨rfl, rfl⟩ := hrel
   go_wp2
   go_ret
   exact ⟨rfl, Below.refl _ _⟩
 ·
  obtain ⟨b, off, n1, ao1, l1, c1, rfl, h1, h2, hn1, hrow, hw1⟩ := HR.out.1.at (show len - 1 < len by omega)
  clear hn1 hw1
  have hidx : (len : Int) - 1 = ((len - 1 : Nat) : Int) := by omega
  have hk1 : len - 1 < len := by omega
  have hpos : (0 : Int) < (len : Int) := by omega
  have hlr : l1 = (rv rs (len - 1)).2.length := hrow.hlen
  clear hrow
  by_cases hz : l1 = 0
  ·
   have hcz : ∀ W', Calls Tryz.prog 54 #[.agg #[.bool n1, .slice ao1 l1 c1]] W' fun e w' => e = .returned (.bool true) ∧ Below W'.heap.size W' w' := fun W' => isZero_any n1 ao1 l1 c1 W' true (by simp; omega)
   obtain rfl : c = 50 := by
    rw [← hc, if_neg]
    intro hm
    have := (pmayB_true hm).2.2 (by omega)
    exact this (List.eq_nil_of_length_eq_zero (by show (rv rs (len - 1)).2.length = 0; omega))
   clear hc hz hlr h0
   go_enter Tryz.func33, Tryz.ntmps33
   go_wp2_with (go_at_call 54; refine (hcz _).mono ?_; rintro e w1 ⟨rfl, hb1⟩)
   go_ret
   exact ⟨rfl, hb1⟩
  ·
   have hcz : ∀ W', Calls Tryz.prog 54 #[.agg #[.bool n1, .slice ao1 l1 c1]] W' fun e w' => e = .returned (.bool false) ∧ Below W'.heap.size W' w' := fun W' => isZero_any n1 ao1 l1 c1 W' false (by simp; omega)
   have HC : Hid ((if rs.all (fun r => mayB r.1 r.2) then 0 else 50 : Int) = c) := by
    show _ = _
    rw [← hc]
    have e1 : (rs.getD (len - 1) (false, [])).2 ≠ [] := fun e => hz (by rw [hlr]; show (rs.getD (len - 1) (false, [])).2.length = 0; rw [e]; rfl)
    have e2 : pmayB len rs = rs.all (fun r => mayB r.1 r.2) := by
     unfold pmayB
     rw [decide_eq_true (show len ≤ 1025 by omega), decide_eq_true e1, Bool.or_true, Bool.and_true, Bool.true_and]
    rw [e2]
   clear hc hz hlr h0
   go_enter Tryz.func33, Tryz.ntmps33
   go_wp2_with (go_at_call 54; refine (hcz _).mono ?_; rintro e w1 ⟨rfl, hb1⟩)
   go_loopw [24] (fun i wr => ∃ k : Nat, k ≤ len ∧ i = .int .i64 k ∧ Below w.heap.size w wr ∧ ∀ t, (ht : t < rs.length) → t < k → mayB (rs[t]).1 (rs[t]).2 = true) (fun i _ => len - (intOf i).toNat)
   case atStart => exact ⟨0, Nat.zero_le _, rfl, hb1, fun t _ h => absurd h (by omega)⟩
   case round =>
    clear h1 h2
    obtain ⟨k, hk, rfl, hbel, hz⟩ := hrel
    have HZ : Hid (∀ t, (ht : t < rs.length) → t < k → mayB (rs[t]).1 (rs[t]).2 = true) := hz
    clear hz
    by_cases hlt : k < len
    ·
     obtain ⟨b', off', n2, ao2, l2, c2, he, h1, h2, hn2, hrow, hw2⟩ := (HR.out.1.later hbel).at hlt
     clear hw2
     cases he
     have hA : Below wr.heap.size wr (wr.alloc (.cells #[.bool n2, .slice ao2 l2 c2] 28)) := (Below.refl _ _).alloc (Nat.le_refl _) _
     have hl2 : l2 ≤ 100000 := by rw [hrow.hlen]; exact HR.out.2.1 k
     have hkr : k < rs.length := by rw [← HR.out.2.2]; exact hlt
     obtain ⟨d, hd⟩ : ∃ d, mayB n2 (rv rs k).2 = d := ⟨_, rfl⟩
     have HD : Hid (mayB (rv rs k).1 (rv rs k).2 = d) := by show _ = d; rw [← hn2]; exact hd
     have hcon : ∀ c', (if d then 0 else 10 : Int) = c' → Calls Tryz.prog 55 #[.agg #[.bool n2, .slice ao2 l2 c2]] (wr.alloc (.cells #[.bool n2, .slice ao2 l2 c2] 28)) fun e w' => e = .returned (.int .i64 c') ∧ Below (wr.alloc (.cells #[.bool n2, .slice ao2 l2 c2] 28)).heap.size (wr.alloc (.cells #[.bool n2, .slice ao2 l2 c2] 28)) w' := fun c' hc' => check_at n2 ao2 l2 c2 _ _ (hrow.later hA) (by omega) c' (by rw [hd]; exact hc')
     have HKR : Hid (k < rs.length) := hkr
     clear hrow hn2 hd hkr
     cases d
     ·
      have hcon := hcon 10 rfl
      obtain rfl : c = 50 := by
       rw [← HC.out, if_neg]
       rw [List.all_eq_true]
       intro h
       have := h _ (List.getElem_mem HKR.out)
       rw [← rv_eq HKR.out, HD.out] at this
       cases this
      go_wp2_with (go_at_call 55; refine hcon.mono ?_; rintro e w2 ⟨rfl, hb2⟩)
      go_ret
      exact ⟨rfl, bnext hbel (bnext hA hb2)⟩
     ·
      have hcon := hcon 0 rfl
      go_wp2_with (go_at_call 55; refine hcon.mono ?_; rintro e w2 ⟨rfl, hb2⟩)
      go_roundw
      case rel => exact ⟨k + 1, by omega, by go_num, bnext hbel (bnext hA hb2), fun t ht htk => by
       by_cases e : t = k
       ·
        subst e; rw [← rv_eq ht]; exact HD.out
       ·
        exact HZ.out t ht (by omega)⟩
      case measure => simp [intOf]; omega
    ·
     obtain rfl : k = len := by omega
     obtain rfl : c = 0 := by
      rw [← HC.out, if_pos]
      rw [List.all_eq_true]
      intro r hr
      obtain ⟨t, ht, rfl⟩ := List.getElem_of_mem hr
      exact HZ.out t ht (by rw [HR.out.2.2]; exact ht)
     go_wp2
     go_ret
     exact ⟨rfl, hbel⟩
end Go.Proofs.YtgcahkhpbcklfaaGreatDoor
namespace Go.Proofs.YtgcahkhpbcklfaaGreatDoor
open Go.RowKit
def NewPO (w w' : World) (e : Ending) (p : List Int) : Prop := ∃ ao len, e = .returned (.slice ao len len) ∧ POwn w.heap.size w' ao len len p ∧ Below w.heap.size w w'
theorem joined_plus (ao bo : Option Addr) (la ca lb cb A N : Nat) (p s : List Int) (w : World) (hp : PolyAt w ao la ca p) (hs : PolyAt w bo lb cb s) (hla : la ≤ 1000) (hlb : lb ≤ 1000) (hA : A ≤ 100000) (hlp : Lim A p) (hls : Lim A s) (hN : N = max la lb) :
  Calls Tryz.prog 52 #[.slice ao la ca, .slice bo lb cb, .func (.func 53) #[] #[]] w fun e w' => NewPO w w' e (trimL (tab N fun i => dig p i + dig s i)) := by
 have HR : Hid (PolyAt w ao la ca p ∧ PolyAt w bo lb cb s ∧ Lim A p ∧ Lim A s ∧ A ≤ 100000) := ⟨hp, hs, hlp, hls, hA⟩
 have h3N : N ≤ 1000 := by omega
 have hmx : max (la : Int) (lb : Int) = (N : Int) := by omega
 clear hp hs hlp hls hA hN
 obtain ⟨F, hF⟩ : ∃ F : Nat → Int, F = fun i => dig p i + dig s i := ⟨_, rfl⟩
 have HF : Hid (∀ i, F i = dig p i + dig s i) := fun i => by rw [hF]
 rw [← hF]
 clear hF
 go_enter Tryz.func52, Tryz.ntmps52
 go_wp2_with (go_at_call 67; refine (room_any N _ (by omega)).mono ?_; rintro e w0 ⟨rfl, hB0, hg0, hb0⟩)
 obtain ⟨g, hg⟩ : ∃ g, g = w.heap.size := ⟨_, rfl⟩
 rw [← hg]
 have HG : Hid (w.heap.size ≤ g ∧ PBlkO w.heap.size w0 g (List.replicate N 0) ∧ g < w0.heap.size ∧ Below w.heap.size w w0) := by rw [hg]; exact ⟨Nat.le_refl _, hB0 _, hg0, hb0⟩
 clear hB0 hg0 hb0 hg
 go_loopw [17] (fun i wr => ∃ (k : Nat) (l : List Int), k ≤ N ∧ i = .int .i64 (k : Int) ∧ Below w.heap.size w wr ∧ g < wr.heap.size ∧ PBlkO w.heap.size wr g l ∧ FillSt N F k l) (fun i _ => N - (intOf i).toNat)
 case atStart => exact ⟨0, _, Nat.zero_le _, rfl, HG.out.2.2.2, HG.out.2.2.1, HG.out.2.1, FillSt.start N F⟩
 case round =>
  obtain ⟨k, l, hk, rfl, hbel, hgl, hPB, hst⟩ := hrel
  have HS : Hid (PBlkO w.heap.size wr g l ∧ FillSt N F k l) := ⟨hPB, hst⟩
  clear hPB hst
  by_cases hlt : k < N
  ·
   have hkl : Hid (k < l.length) := by show k < _; rw [HS.out.2.1]; exact hlt
   have z1 : (0 : Int) ≤ (k : Int) := by omega
   have z2 : (k : Int) < (N : Int) := by omega
   go_wp2_with (first
    | (go_at_call 53; refine (plplus_any n1 n2 ao1 ao2 l1 c1 l2 c2 (dig p k) (dig s k) _ H2.out.2.1 H2.out.1 (by omega) (by omega)).mono ?_; rintro e w3 ⟨n3, ao3, l3, c3, rfl, hs3, ho3, hb3⟩; have H3 : Hid (n3 = sgB (F k) ∧ Own wr.heap.size w3 .u64 63 ao3 l3 c3 (mag (F k).natAbs)) := (by rw [HF.out]; exact ⟨hs3, ho3.mono H2.out.2.2.size⟩); have hA3 : Below wr.heap.size wr w3 := bnext H2.out.2.2 hb3; have HP2 := HS.out.1.later hA3 hgl; clear hs3 ho3 hb3; obtain ⟨n0', a0', l0', c0', ⟨e0, e1⟩, _⟩ := HP2.coef k hkl.out; have hfz := HP2.soft; clear HP2)
    | (go_at_call 80; have _t := H1; refine (plat_any bo lb cb k s _ (HR.out.2.1.later (bnext hbel H1.out.2))).mono ?_; rintro e w2 ⟨n2, ao2, l2, c2, rfl, hi2, hb2⟩; have H2 : Hid (IntAt w2 n2 ao2 l2 c2 (dig s k) ∧ IntAt w2 n1 ao1 l1 c1 (dig p k) ∧ Below wr.heap.size wr w2) := ⟨hi2, H1.out.1.later hb2, bnext H1.out.2 hb2⟩; have hl2 : l2 ≤ 100000 := (by rw [hi2.lim]; exact Nat.le_trans (HR.out.2.2.2.1 k) HR.out.2.2.2.2); clear hi2 hb2)
    | (go_at_call 80; refine (plat_any ao la ca k p _ (HR.out.1.later hbel)).mono ?_; rintro e w1 ⟨n1, ao1, l1, c1, rfl, hi1, hb1⟩; have H1 : Hid (IntAt w1 n1 ao1 l1 c1 (dig p k) ∧ Below wr.heap.size wr w1) := ⟨hi1, hb1⟩; have hl1 : l1 ≤ 100000 := (by rw [hi1.lim]; exact Nat.le_trans (HR.out.2.2.1 k) HR.out.2.2.2.2); clear hi1 hb1))
   go_roundw
   case rel => exact ⟨k + 1, l.set k (F k), by omega, by go_num, ((bnext hbel hA3).setCell (p := ⟨g, k * 2, none⟩) HG.out.1 _).setCell (p := ⟨g, k * 2 + 1, none⟩) HG.out.1 _, by (have := hA3.size; simp; omega), HS.out.1.put hA3 hgl hbel.size hkl.out H3.out.1 H3.out.2, HS.out.2.step hlt⟩
   case measure => simp [intOf]; omega
  ·
   obtain rfl : k = N := by omega
   have HE : Hid (l = tab k F) := HS.out.2.done
   have HPP : Hid (PolyAt wr (some ⟨g, 0, none⟩) k k l) := HS.out.1.blk.poly HS.out.2.1.symm
   go_wp2_with (go_at_call 68; refine (trimmed_any (some ⟨g, 0, none⟩) k k l _ HPP.out (by omega)).mono ?_; rintro e w1 ⟨ao', m, hm, rfl, h0, h1, hb1⟩; have HO : Hid (POwn w.heap.size w1 ao' m m (trimL (tab k F))) := (by rw [← HE.out]; exact (HS.out.1.later hb1 hgl).trim HG.out.1 (Nat.lt_of_lt_of_le hgl hb1.size) hm h0 h1); clear hm h0 h1)
   go_ret
   exact ⟨_, _, rfl, HO.out, bnext hbel hb1⟩
theorem derivative_any (ao : Option Addr) (la ca A : Nat) (p : List Int) (w : World) (hp : PolyAt w ao la ca p) (hla : la ≤ 1000) (hA : A ≤ 100000) (hlp : Lim A p) :
  Calls Tryz.prog 43 #[.slice ao la ca] w fun e w' => NewPO w w' e (trimL (tab (la - 1) (derF p))) := by
 have HR : Hid (PolyAt w ao la ca p ∧ Lim A p ∧ A ≤ 100000) := ⟨hp, hlp, hA⟩
 clear hp hlp hA
 rcases Nat.eq_zero_or_pos la with h0 | h0
 ·
  subst h0
  go_enter Tryz.func43, Tryz.ntmps43
  go_wp2
  go_ret
  exact ⟨_, _, rfl, POwn.nil _ _, Below.refl _ _⟩
 obtain ⟨N, rfl⟩ : ∃ N, la = N + 1 := ⟨la - 1, by omega⟩
 have hn : (((N + 1 : Nat) : Int) == 0) = false := by simp; omega
 have hki : ((N + 1 : Nat) : Int) - 1 = (N : Int) := by omega
 have HNN : Hid (N + 1 - 1 = N) := Nat.add_sub_cancel ..
 obtain ⟨F, hF⟩ : ∃ F : Nat → Int, F = derF p := ⟨_, rfl⟩
 clear h0
 go_enter Tryz.func43, Tryz.ntmps43
 go_wp2_with (go_at_call 67; refine (room_any N _ (by omega)).mono ?_; rintro e w0 ⟨rfl, hB0, hg0, hb0⟩)
 obtain ⟨g, hg⟩ : ∃ g, g = w.heap.size := ⟨_, rfl⟩
 rw [← hg]
 have HG : Hid (w.heap.size ≤ g ∧ PBlkO w.heap.size w0 g (List.replicate N 0) ∧ g < w0.heap.size ∧ Below w.heap.size w w0) := by rw [hg]; exact ⟨Nat.le_refl _, hB0 _, hg0, hb0⟩
 have HF : Hid (F = derF p) := hF
 clear hB0 hg0 hb0 hg hki hF
 go_loopw [14] (fun i wr => ∃ (k : Nat) (l : List Int), k ≤ N ∧ i = .int .i64 (k : Int) ∧ Below w.heap.size w wr ∧ g < wr.heap.size ∧ PBlkO w.heap.size wr g l ∧ FillSt N F k l) (fun i _ => N - (intOf i).toNat)
 case atStart => exact ⟨0, _, Nat.zero_le _, rfl, HG.out.2.2.2, HG.out.2.2.1, HG.out.2.1, FillSt.start N F⟩
 case round =>
  obtain ⟨k, l, hk, rfl, hbel, hgl, hPB, hst⟩ := hrel
  have HS : Hid (PBlkO w.heap.size wr g l ∧ FillSt N F k l) := ⟨hPB, hst⟩
  clear hPB hst
  by_cases hlt : k < N
  ·
   have hkl : Hid (k < l.length) := by show k < _; rw [HS.out.2.1]; exact hlt
   obtain ⟨b, off, n1, ao1, l1, c1, rfl, f0', f1', hi1⟩ := HR.out.1.at (show k + 1 < N + 1 by omega)
   have KS : Hid (∀ w', Below w.heap.size w w' → w'.cell? ⟨b, off + (k + 1) * 2, none⟩ = some (.bool n1) ∧ w'.cell? ⟨b, off + (k + 1) * 2 + 1, none⟩ = some (.slice ao1 l1 c1)) := fun w' hb => ⟨(hb.cell (p := ⟨b, off + (k + 1) * 2, none⟩) (cell_lt f0')).trans f0', (hb.cell (p := ⟨b, off + (k + 1) * 2 + 1, none⟩) (cell_lt f1')).trans f1'⟩
   have HI : Hid (IntAt wr n1 ao1 l1 c1 (dig p (k + 1))) := hi1.later hbel
   have hl1 : l1 ≤ 100000 := by rw [hi1.lim]; exact Nat.le_trans (HR.out.2.1 _) HR.out.2.2
   have z1 : (0 : Int) ≤ (k : Int) := by omega
   have z2 : (k : Int) < (N : Int) := by omega
   have z3 : (0 : Int) ≤ (k : Int) + 1 := by omega
   have z4 : (k : Int) + 1 < ((N + 1 : Nat) : Int) := by omega
   have z5 : IntKind.i64.wrap ((k : Int) + 1) = (k : Int) + 1 := by rw [IntKind.wrap_i64]; omega
   have z6 : ((k : Int) + 1).toNat = k + 1 := by omega
   clear hi1 f0' f1'
   go_wp2
   refine wp_region_noPanic ?_
   refine wp_region_held_drew (S := fun w' => (w'.cell? ⟨b, off + (k + 1) * 2, none⟩ = some (.bool n1) ∧ w'.cell? ⟨b, off + (k + 1) * 2 + 1, none⟩ = some (.slice ao1 l1 c1))) (by kernel_rfl) (by (try dsimp only); exact KS.out _ hbel.drew) (fun hHeld => ?_)
   refine wpAnyH_take (i := 0) (oi := Oper.mk (some 17) _ _ _ _ _) (v := ?_) rfl (by decide +kernel) (by decide +kernel) (by decide +kernel) (fun _ _ _ h => h) (Or.inl ⟨by rfl, ?_⟩) (by assumption) ?_
   rotate_left
   ·
    (intro w hSw; (try dsimp only at hSw); go_simp <;> (try with_reducible rfl))
   (try simp only [Act.put, List.setIfInBounds_toArray, List.set_cons_zero, List.set_cons_succ])
   refine wpAnyH_take (i := 1) (oi := Oper.mk (some 18) _ _ _ _ _) (v := ?_) rfl (by decide +kernel) (by decide +kernel) (by decide +kernel) (fun _ _ _ h => h) (Or.inl ⟨by rfl, ?_⟩) (by assumption) ?_
   rotate_left
   ·
    (intro w hSw; (try dsimp only at hSw); go_simp <;> (try with_reducible rfl))
   (try simp only [Act.put, List.setIfInBounds_toArray, List.set_cons_zero, List.set_cons_succ])
   refine wpAnyH_take (i := 2) (oi := Oper.mk (some 19) _ _ _ _ _) (v := ?_) rfl (by decide +kernel) (by decide +kernel) (by decide +kernel) (fun _ _ _ h => h) (Or.inl ⟨by rfl, ?_⟩) (by assumption) ?_
   rotate_left
   ·
    (intro w hSw; (try dsimp only at hSw); go_simp <;> (try with_reducible rfl))
   (try simp only [Act.put, List.setIfInBounds_toArray, List.set_cons_zero, List.set_cons_succ])
   refine wpAnyH_take (i := 3) (oi := Oper.mk (some 20) _ _ _ _ _) (v := ?_) rfl (by decide +kernel) (by decide +kernel) (by decide +kernel) (fun _ _ _ h => h) (Or.inl ⟨by rfl, ?_⟩) (by assumption) ?_
   rotate_left
   ·
    (intro w hSw; (try dsimp only at hSw); go_simp <;> (try with_reducible rfl))
   (try simp only [Act.put, List.setIfInBounds_toArray, List.set_cons_zero, List.set_cons_succ])
   refine wpAnyH_take (i := 4) (oi := Oper.mk (some 21) _ _ _ _ _) (v := ?_) rfl (by decide +kernel) (by decide +kernel) (by decide +kernel) (fun _ _ _ h => h) (Or.inl ⟨by rfl, ?_⟩) (by assumption) ?_
   rotate_left
   ·
    (intro w hSw; (try dsimp only at hSw); go_simp <;> (try with_reducible rfl))
   (try simp only [Act.put, List.setIfInBounds_toArray, List.set_cons_zero, List.set_cons_succ])
   refine wpAnyH_take (i := 5) (oi := Oper.mk (some 22) _ _ _ _ _) (v := ?_) rfl (by decide +kernel) (by decide +kernel) (by decide +kernel) (fun _ _ _ h => h) (Or.inl ⟨by rfl, ?_⟩) (by assumption) ?_
   rotate_left
   ·
    (intro w hSw; (try dsimp only at hSw); go_simp <;> (try with_reducible rfl))
   (try simp only [Act.put, List.setIfInBounds_toArray, List.set_cons_zero, List.set_cons_succ])
   refine wpAnyH_take (i := 6) (oi := Oper.mk (some 23) _ _ _ _ _) (v := ?_) rfl (by decide +kernel) (by decide +kernel) (by decide +kernel) (fun _ _ _ h => h) (Or.inl ⟨by rfl, ?_⟩) (by assumption) ?_
   rotate_left
   ·
    (intro w hSw; (try dsimp only at hSw); go_simp <;> (try with_reducible rfl))
   (try simp only [Act.put, List.setIfInBounds_toArray, List.set_cons_zero, List.set_cons_succ])
   refine wpAnyH_take (i := 7) (oi := Oper.mk (some 24) _ _ _ _ _) (v := ?_) rfl (by decide +kernel) (by decide +kernel) (by decide +kernel) (fun _ _ _ h => h) (Or.inl ⟨by rfl, ?_⟩) (by assumption) ?_
   rotate_left
   ·
    (intro w hSw; (try dsimp only at hSw); go_simp <;> (try with_reducible rfl))
   (try simp only [Act.put, List.setIfInBounds_toArray, List.set_cons_zero, List.set_cons_succ])
   refine wpAnyH_take (i := 8) (oi := Oper.mk (some 25) _ _ _ _ _) (v := ?_) rfl (by decide +kernel) (by decide +kernel) (by decide +kernel) (fun _ _ _ h => h) (Or.inl ⟨by rfl, ?_⟩) (by assumption) ?_
   rotate_left
   ·
    (intro w hSw; (try dsimp only at hSw); go_simp <;> (try with_reducible rfl))
   (try simp only [Act.put, List.setIfInBounds_toArray, List.set_cons_zero, List.set_cons_succ])
   refine wpAnyH_ready (rs := [9]) (by decide +kernel) (by simp) ?_
   refine AllReadyH.cons (o := Oper.mk (some 26) _ _ _ _ _) rfl (fun K hK => ?_) AllReadyH.nil
   go_simp
   (go_at_call 57; refine (from_any ((k : Int) + 1) _ (by omega) (by omega)).mono ?_; rintro e w2 ⟨n2, ao2, l2, c2, rfl, hs2, ho2, hb2'⟩; have hb2 : Below wr.heap.size wr w2 := bnext (Below.refl _ _).drew hb2'; have H2 : Hid (IntAt w2 n2 ao2 l2 c2 ((k : Int) + 1) ∧ IntAt w2 n1 ao1 l1 c1 (dig p (k + 1))) := ⟨ho2.int hs2, HI.out.later hb2⟩; have hl2 : l2 ≤ 100000 := (by rw [(ho2.int hs2).lim]; exact Nat.le_trans (lim_small _ (by omega)) (by decide)); clear hs2 ho2 hb2')
   (try go_wp2_with fail)
   clear hHeld
   refine hK.out _ _ (by (try dsimp only); exact KS.out _ (bnext hbel hb2)) (fun hHeld => ?_)
   clear hK K
   (try simp only [Act.put, List.setIfInBounds_toArray, List.set_cons_zero, List.set_cons_succ])
   refine wpAnyH_ready (rs := [10]) (by decide +kernel) (by simp) ?_
   refine AllReadyH.cons (o := Oper.mk (some 27) _ _ _ _ _) rfl (fun K hK => ?_) AllReadyH.nil
   go_simp
   (go_at_call 58; refine (pltimes_any n1 n2 ao1 ao2 l1 c1 l2 c2 (dig p (k + 1)) ((k : Int) + 1) _ H2.out.2 H2.out.1 (by omega) (by omega)).mono ?_; rintro e w3 ⟨n3, ao3, l3, c3, rfl, hs3, ho3, hb3⟩; have H3 : Hid (n3 = sgB (derF p k) ∧ Own wr.heap.size w3 .u64 63 ao3 l3 c3 (mag (derF p k).natAbs)) := ⟨hs3, ho3.mono hb2.size⟩; have hA3 : Below wr.heap.size wr w3 := bnext hb2 hb3; have HP2 := HS.out.1.later hA3 hgl; clear hs3 ho3 hb3; obtain ⟨n0', a0', l0', c0', ⟨e0, e1⟩, _⟩ := HP2.coef k hkl.out; have hfz := HP2.soft; clear HP2)
   (try go_wp2_with fail)
   clear hHeld
   refine hK.out _ _ (by (try dsimp only); exact KS.out _ (bnext hbel hA3)) (fun hHeld => ?_)
   clear hK K
   (try simp only [Act.put, List.setIfInBounds_toArray, List.set_cons_zero, List.set_cons_succ])
   refine wpAnyH_take (i := 11) (oi := Oper.mk (some 28) _ _ _ _ _) (v := ?_) rfl (by decide +kernel) (by decide +kernel) (by decide +kernel) (fun _ _ _ h => h) (Or.inl ⟨by rfl, ?_⟩) (by assumption) ?_
   rotate_left
   ·
    (intro w hSw; (try dsimp only at hSw); go_simp <;> (try with_reducible rfl))
   (try simp only [Act.put, List.setIfInBounds_toArray, List.set_cons_zero, List.set_cons_succ])
   refine wpAnyH_ready (rs := [12]) (by decide +kernel) (by simp) ?_
   refine AllReadyH.cons (o := Oper.mk none _ _ _ _ _) rfl (fun K hK => ?_) AllReadyH.nil
   go_simp
   clear hHeld
   refine hK.out _ _ (by (try dsimp only); exact KS.out _ (((bnext hbel hA3).setCell (p := ⟨g, k * 2, none⟩) HG.out.1 _).setCell (p := ⟨g, k * 2 + 1, none⟩) HG.out.1 _)) (fun hHeld => ?_)
   clear hK K
   (try simp only [Act.put, List.setIfInBounds_toArray, List.set_cons_zero, List.set_cons_succ])
   refine wpAnyH_done (by decide +kernel) ?_ _
   refine NoPanic.normal ?_
   go_wp2
   go_roundw
   case rel => exact ⟨k + 1, l.set k (F k), by omega, by go_num, ((bnext hbel hA3).setCell (p := ⟨g, k * 2, none⟩) HG.out.1 _).setCell (p := ⟨g, k * 2 + 1, none⟩) HG.out.1 _, by (have := hA3.size; simp; omega), HS.out.1.put hA3 hgl hbel.size hkl.out (by rw [HF.out]; exact H3.out.1) (by rw [HF.out]; exact H3.out.2), HS.out.2.step hlt⟩
   case measure => simp [intOf]; omega
  ·
   obtain rfl : k = N := by omega
   have HE : Hid (l = tab k F) := HS.out.2.done
   have HPP : Hid (PolyAt wr (some ⟨g, 0, none⟩) k k l) := HS.out.1.blk.poly HS.out.2.1.symm
   go_wp2_with (go_at_call 68; refine (trimmed_any (some ⟨g, 0, none⟩) k k l _ HPP.out (by omega)).mono ?_; rintro e w1 ⟨ao', m, hm, rfl, h0, h1, hb1⟩; have HO : Hid (POwn w.heap.size w1 ao' m m (trimL (tab k F))) := (by rw [← HE.out]; exact (HS.out.1.later hb1 hgl).trim HG.out.1 (Nat.lt_of_lt_of_le hgl hb1.size) hm h0 h1); clear hm h0 h1)
   go_ret
   exact ⟨_, _, rfl, by rw [HNN.out, ← HF.out]; exact HO.out, bnext hbel hb1⟩
end Go.Proofs.YtgcahkhpbcklfaaGreatDoor
