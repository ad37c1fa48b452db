/-
  A pack of walks and facts: UG, UH, UI.
-/
import Derived.Test.YtpbkonafojemiaaGreatDoorPK19
set_option maxRecDepth 100000
set_option maxHeartbeats 40000000
set_option linter.unusedVariables false
set_option linter.unusedSimpArgs false
namespace Go.Proofs.YtpbkonafojemiaaGreatDoor
open Go.RowKit
theorem plplus_any (na nb : Bool) (ao bo : Option Addr) (la ca lb cb : Nat) (a b : Int) (w : World) (hx : IntAt w na ao la ca a) (hy : IntAt w nb bo lb cb b) (hl : la ≤ 2147483648) (hl' : lb ≤ 2147483648) :
  Calls Tryz.prog 42 #[.agg #[.bool na, .slice ao la ca], .agg #[.bool nb, .slice bo lb cb]] w fun e w' => NewInt w w' e (a + b) := by
 obtain ⟨W, hT⟩ := Two3.mk' w na nb ao bo la ca lb cb
 have hsz := hT.size
 have hRx := hx.later hT.below
 have hRy := hy.later hT.below
 clear hx hy
 go_enter Tryz.func42, Tryz.ntmps42
 go_wp2_with (first
  | (go_at_call 70; rw [← hT.eq]; refine (add_any na nb ao bo la ca lb cb a b _ hRx hRy (by omega) (by omega)).mono ?_; rintro e w1 ⟨n1, ao1, l1, c1, rfl, hsg1, ho1, hb1⟩; have HS : Hid (n1 = sgB (a + b)) := hsg1; clear hsg1; have hs1 := hb1.size; have hbA : Below W.heap.size W (w1.alloc (.cells #[.bool n1, .slice ao1 l1 c1] 28)) := hb1.trans ((Below.refl _ _).alloc hs1 _); obtain ⟨g5, g3, g4⟩ := hT.r.later hbA (by omega)))
 exact bodyPost_ret (v := .agg #[.bool n1, .slice ao1 l1 c1]) (by simp [results, Tryz.results42, go_sem, g3, g4]) rfl
  ⟨_, _, _, _, rfl, HS.out, (((ho1.later ((Below.refl _ _).alloc (Nat.le_refl _) _)).store (by omega) _ _).mono (by omega)), below_store (bnext hT.below hbA) (by omega) _ _⟩
theorem plminus_any (na nb : Bool) (ao bo : Option Addr) (la ca lb cb : Nat) (a b : Int) (w : World) (hx : IntAt w na ao la ca a) (hy : IntAt w nb bo lb cb b) (hl : la ≤ 2147483648) (hl' : lb ≤ 2147483648) :
  Calls Tryz.prog 78 #[.agg #[.bool na, .slice ao la ca], .agg #[.bool nb, .slice bo lb cb]] w fun e w' => NewInt w w' e (a - b) := by
 obtain ⟨W, hT⟩ := Two3.mk' w na nb ao bo la ca lb cb
 have hsz := hT.size
 have hRx := hx.later hT.below
 have hRy := hy.later hT.below
 clear hx hy
 go_enter Tryz.func78, Tryz.ntmps78
 go_wp2_with (first
  | (go_at_call 93; rw [← hT.eq]; refine (sub_any na nb ao bo la ca lb cb a b _ hRx hRy (by omega) (by omega)).mono ?_; rintro e w1 ⟨n1, ao1, l1, c1, rfl, hsg1, ho1, hb1⟩; have HS : Hid (n1 = sgB (a - b)) := hsg1; clear hsg1; have hs1 := hb1.size; have hbA : Below W.heap.size W (w1.alloc (.cells #[.bool n1, .slice ao1 l1 c1] 28)) := hb1.trans ((Below.refl _ _).alloc hs1 _); obtain ⟨g5, g3, g4⟩ := hT.r.later hbA (by omega)))
 exact bodyPost_ret (v := .agg #[.bool n1, .slice ao1 l1 c1]) (by simp [results, Tryz.results78, go_sem, g3, g4]) rfl
  ⟨_, _, _, _, rfl, HS.out, (((ho1.later ((Below.refl _ _).alloc (Nat.le_refl _) _)).store (by omega) _ _).mono (by omega)), below_store (bnext hT.below hbA) (by omega) _ _⟩
theorem pltimes_any (na nb : Bool) (ao bo : Option Addr) (la ca lb cb : Nat) (a b : Int) (w : World) (hx : IntAt w na ao la ca a) (hy : IntAt w nb bo lb cb b) (hl : la ≤ 2147483648) (hl' : lb ≤ 2147483648) :
  Calls Tryz.prog 43 #[.agg #[.bool na, .slice ao la ca], .agg #[.bool nb, .slice bo lb cb]] w fun e w' => NewInt w w' e (a * b) := by
 obtain ⟨W, hT⟩ := Two3.mk' w na nb ao bo la ca lb cb
 have hsz := hT.size
 have hRx := hx.later hT.below
 have hRy := hy.later hT.below
 clear hx hy
 go_enter Tryz.func43, Tryz.ntmps43
 go_wp2_with (first
  | (go_at_call 71; rw [← hT.eq]; refine (bmul_any na nb ao bo la ca lb cb a b _ hRx hRy (by omega) (by omega)).mono ?_; rintro e w1 ⟨n1, ao1, l1, c1, rfl, hsg1, ho1, hb1⟩; have HS : Hid (n1 = sgB (a * b)) := hsg1; clear hsg1; have hs1 := hb1.size; have hbA : Below W.heap.size W (w1.alloc (.cells #[.bool n1, .slice ao1 l1 c1] 28)) := hb1.trans ((Below.refl _ _).alloc hs1 _); obtain ⟨g5, g3, g4⟩ := hT.r.later hbA (by omega)))
 exact bodyPost_ret (v := .agg #[.bool n1, .slice ao1 l1 c1]) (by simp [results, Tryz.results43, go_sem, g3, g4]) rfl
  ⟨_, _, _, _, rfl, HS.out, (((ho1.later ((Below.refl _ _).alloc (Nat.le_refl _) _)).store (by omega) _ _).mono (by omega)), below_store (bnext hT.below hbA) (by omega) _ _⟩
theorem room_any (n : Nat) (w : World) (hn : n ≤ 1048576) :
  Calls Tryz.prog 46 #[.int .i64 (n : Int)] w fun e w' => e = .returned (.slice (some ⟨w.heap.size, 0, none⟩) n n) ∧ (∀ B, PBlkO B w' w.heap.size (List.replicate n 0)) ∧ w.heap.size < w'.heap.size ∧ Below w.heap.size w w' := by
 obtain ⟨i0, hi, hz0, hz1, hz2⟩ := info_parts infoInt
 have b1 : Hid (i0.bytes * n ≤ 281474976710656) := by show _ ≤ _; rw [hz2]; omega
 have b2 : Hid (n ≤ maxLen) := by show _ ≤ _; unfold maxLen; omega
 go_enter Tryz.func46, Tryz.ntmps46
 go_wp2_with (at_make; refine wpList_make_full _ rfl (.tmp 3) (.tmp 3) 24 rfl w.heap.size 28 i0 (.agg #[.bool false, .slice none 0 0]) 2 Tryz.underlying24 hi hz0 hz1 .i64 .i64 _ _ n rfl rfl rfl rfl b1.out b2.out (Nat.le_refl _) ?_; intro w1 hown1 hgrow1)
 go_ret
 exact ⟨rfl, fun B => (pblkO_of_made hown1).1, (pblkO_of_made (C := 0) hown1).2, grown_below hgrow1⟩
theorem trimmed_any (ao : Option Addr) (len cap : Nat) (p : List Int) (w : World) (hp : PolyAt w ao len cap p) (hl : len ≤ 1048576) :
  Calls Tryz.prog 52 #[.slice ao len cap] w fun e w' => ∃ ao' m, m = trimN p p.length ∧ e = .returned (.slice ao' m m) ∧ (m = 0 → ao' = none) ∧ (0 < m → ao' = ao) ∧ Below w.heap.size w w' := by
 have HP : Hid (PolyAt w ao len cap p ∧ len = p.length) := ⟨hp, hp.hlen⟩
 have hcap := hp.hcap
 have hnil := hp.hnil
 clear hp
 go_enter Tryz.func52, Tryz.ntmps52
 go_wp2
 go_loopw [3] (fun i wr => ∃ k : Nat, k ≤ len ∧ i = .int .i64 (k : Int) ∧ Below w.heap.size w wr ∧ trimN p k = trimN p len) (fun i _ => (intOf i).toNat)
 case atStart => exact ⟨len, Nat.le_refl _, rfl, Below.refl _ _, rfl⟩
 case round =>
  obtain ⟨k, hk, rfl, hbel, htr⟩ := hrel
  have HT : Hid (trimN p k = trimN p len) := htr
  clear htr
  have y2 : (k : Int) ≤ (cap : Int) := by omega
  have y1 : (0 : Int) ≤ (k : Int) := by omega
  by_cases hk0 : k = 0
  ·
   subst hk0
   go_wp2
   go_ret
   exact ⟨none, 0, by rw [← HP.out.2, ← HT.out]; rfl, rfl, fun _ => rfl, fun h => absurd h (by omega), hbel⟩
  ·
   obtain ⟨i, rfl⟩ : ∃ i, k = i + 1 := ⟨k - 1, by omega⟩
   have hpI : (0 : Int) < ((i + 1 : Nat) : Int) := by omega
   have hpE : (((i + 1 : Nat) : Int) == 0) = false := by simp; omega
   have hidx : ((i + 1 : Nat) : Int) - 1 = (i : Int) := by omega
   have hil : (i : Int) < (len : Int) := by omega
   have hi0 : (0 : Int) ≤ (i : Int) := by omega
   obtain ⟨b, off, n1, ao1, l1, c1, rfl, e0, e1, hi1⟩ := (HP.out.1.later hbel).at (show i < len by omega)
   have HI : Hid (l1 = lim (dig p i)) := hi1.lim
   clear hi1 hk0
   by_cases hz : l1 = 0
   ·
    have hcon : ∀ W', Calls Tryz.prog 38 #[.agg #[.bool n1, .slice ao1 l1 c1]] W' fun e w' => e = .returned (.bool true) ∧ Below W'.heap.size W' w' := fun W' => isZero_any n1 ao1 l1 c1 W' true (by simp; omega)
    have HZ : Hid (dig p i = 0) := zero_of_lim (by rw [← HI.out]; exact hz)
    clear hz
    go_wp2_with (go_at_call 38; refine (hcon _).mono ?_; rintro e w1 ⟨rfl, hb1⟩)
    go_roundw
    case rel => exact ⟨i, by omega, by go_num, bnext hbel hb1, by rw [← HT.out, trimN_zero HZ.out]⟩
    case measure => simp [intOf]
   ·
    have hcon : ∀ W', Calls Tryz.prog 38 #[.agg #[.bool n1, .slice ao1 l1 c1]] W' fun e w' => e = .returned (.bool false) ∧ Below W'.heap.size W' w' := fun W' => isZero_any n1 ao1 l1 c1 W' false (by simp; omega)
    have HZ : Hid (dig p i ≠ 0) := fun e => hz (by rw [HI.out, e]; exact lim_zero)
    clear hz
    go_wp2_with (go_at_call 38; refine (hcon _).mono ?_; rintro e w1 ⟨rfl, hb1⟩)
    go_ret
    exact ⟨_, i + 1, by rw [← HP.out.2, ← HT.out, trimN_keep HZ.out], rfl, fun h => absurd h (by omega), fun _ => rfl, bnext hbel hb1⟩
def rv (rs : List (Bool × List Int)) (t : Nat) : Bool × List Int := rs.getD t (false, [])
theorem rv_eq {rs : List (Bool × List Int)} {t : Nat} (h : t < rs.length) : rv rs t = rs[t] := by unfold rv; rw [List.getD_eq_getElem?_getD, List.getElem?_eq_getElem h]; rfl
theorem RawsAt.at {w : World} {ao : Option Addr} {len cap k : Nat} {rs : List (Bool × List Int)} (h : RawsAt w ao len cap rs) (hk : k < len) : ∃ b off n1 ao1 l1 c1, ao = some ⟨b, off, none⟩ ∧ w.cell? ⟨b, off + k * 2, none⟩ = some (.bool n1) ∧ w.cell? ⟨b, off + k * 2 + 1, none⟩ = some (.slice ao1 l1 c1) ∧ n1 = (rv rs k).1 ∧ RowAt w .u64 ao1 l1 c1 (rv rs k).2 ∧ Wd 18446744073709551616 (rv rs k).2 := by
 have hk2 : k < rs.length := by rw [← h.hlen]; exact hk
 obtain ⟨b, off, h1, hat⟩ := h.get (by omega)
 obtain ⟨ao1, l1, c1, ⟨h0, h1'⟩, hr, hw⟩ := hat k hk2
 rw [rv_eq hk2]
 exact ⟨b, off, _, ao1, l1, c1, h1, h0, h1', rfl, hr, hw⟩
theorem pcheck_is (ao : Option Addr) (len cap : Nat) (rs : List (Bool × List Int)) (w : World) (hr : RawsAt w ao len cap rs) (hl : len ≤ 1000) (hlim : ∀ t, (rv rs t).2.length ≤ 100000) (c : Int) (hc : (if pmayB len rs then 0 else 50 : Int) = c) :
  Calls Tryz.prog 24 #[.slice ao len cap] w fun e w' => e = .returned (.int .i64 c) ∧ Below w.heap.size w w' := by
 have hl1 : ¬ ((1025 : Int) < (len : Int)) := by omega
 have HR : Hid (RawsAt w ao len cap rs ∧ (∀ t, (rv rs t).2.length ≤ 100000) ∧ len = rs.length) := ⟨hr, hlim, hr.hlen⟩
 clear hr hlim
 by_cases h0 : len = 0
 ·
  subst h0
  obtain rfl : rs = [] := List.eq_nil_of_length_eq_zero HR.out.2.2.symm
  obtain rfl : c = 0 := by rw [← hc]; rfl
  clear hc
  go_enter Tryz.func24, Tryz.ntmps24
  go_wp2
  go_loopw [24] (fun i wr => i = .int .i64 0 ∧ wr = w) (fun i _ => 0)
  case atStart => exact ⟨rfl, rfl⟩
  case round =>
   obtain ⟨rfl, rfl⟩ := hrel
   go_wp2
   go_ret
   exact ⟨rfl, Below.refl _ _⟩
 ·
  obtain ⟨b, off, n1, ao1, l1, c1, rfl, h1, h2, hn1, hrow, hw1⟩ := HR.out.1.at (show len - 1 < len by omega)
  clear hn1 hw1
  have hidx : (len : Int) - 1 = ((len - 1 : Nat) : Int) := by omega
  have hk1 : len - 1 < len := by omega
  have hpos : (0 : Int) < (len : Int) := by omega
  have hlr : l1 = (rv rs (len - 1)).2.length := hrow.hlen
  clear hrow
  by_cases hz : l1 = 0
  ·
   have hcz : ∀ W', Calls Tryz.prog 38 #[.agg #[.bool n1, .slice ao1 l1 c1]] W' fun e w' => e = .returned (.bool true) ∧ Below W'.heap.size W' w' := fun W' => isZero_any n1 ao1 l1 c1 W' true (by simp; omega)
   obtain rfl : c = 50 := by
    rw [← hc, if_neg]
    intro hm
    have := (pmayB_true hm).2.2 (by omega)
    exact this (List.eq_nil_of_length_eq_zero (by show (rv rs (len - 1)).2.length = 0; omega))
   clear hc hz hlr h0
   go_enter Tryz.func24, Tryz.ntmps24
   go_wp2_with (go_at_call 38; refine (hcz _).mono ?_; rintro e w1 ⟨rfl, hb1⟩)
   go_ret
   exact ⟨rfl, hb1⟩
  ·
   have hcz : ∀ W', Calls Tryz.prog 38 #[.agg #[.bool n1, .slice ao1 l1 c1]] W' fun e w' => e = .returned (.bool false) ∧ Below W'.heap.size W' w' := fun W' => isZero_any n1 ao1 l1 c1 W' false (by simp; omega)
   have HC : Hid ((if rs.all (fun r => mayB r.1 r.2) then 0 else 50 : Int) = c) := by
    show _ = _
    rw [← hc]
    have e1 : (rs.getD (len - 1) (false, [])).2 ≠ [] := fun e => hz (by rw [hlr]; show (rs.getD (len - 1) (false, [])).2.length = 0; rw [e]; rfl)
    have e2 : pmayB len rs = rs.all (fun r => mayB r.1 r.2) := by
     unfold pmayB
     rw [decide_eq_true (show len ≤ 1025 by omega), decide_eq_true e1, Bool.or_true, Bool.and_true, Bool.true_and]
    rw [e2]
   clear hc hz hlr h0
   go_enter Tryz.func24, Tryz.ntmps24
   go_wp2_with (go_at_call 38; refine (hcz _).mono ?_; rintro e w1 ⟨rfl, hb1⟩)
   go_loopw [24] (fun i wr => ∃ k : Nat, k ≤ len ∧ i = .int .i64 k ∧ Below w.heap.size w wr ∧ ∀ t, (ht : t < rs.length) → t < k → mayB (rs[t]).1 (rs[t]).2 = true) (fun i _ => len - (intOf i).toNat)
   case atStart => exact ⟨0, Nat.zero_le _, rfl, hb1, fun t _ h => absurd h (by omega)⟩
   case round =>
    clear h1 h2
    obtain ⟨k, hk, rfl, hbel, hz⟩ := hrel
    have HZ : Hid (∀ t, (ht : t < rs.length) → t < k → mayB (rs[t]).1 (rs[t]).2 = true) := hz
    clear hz
    by_cases hlt : k < len
    ·
     obtain ⟨b', off', n2, ao2, l2, c2, he, h1, h2, hn2, hrow, hw2⟩ := (HR.out.1.later hbel).at hlt
     clear hw2
     cases he
     have hA : Below wr.heap.size wr (wr.alloc (.cells #[.bool n2, .slice ao2 l2 c2] 28)) := (Below.refl _ _).alloc (Nat.le_refl _) _
     have hl2 : l2 ≤ 100000 := by rw [hrow.hlen]; exact HR.out.2.1 k
     have hkr : k < rs.length := by rw [← HR.out.2.2]; exact hlt
     obtain ⟨d, hd⟩ : ∃ d, mayB n2 (rv rs k).2 = d := ⟨_, rfl⟩
     have HD : Hid (mayB (rv rs k).1 (rv rs k).2 = d) := by show _ = d; rw [← hn2]; exact hd
     have hcon : ∀ c', (if d then 0 else 10 : Int) = c' → Calls Tryz.prog 39 #[.agg #[.bool n2, .slice ao2 l2 c2]] (wr.alloc (.cells #[.bool n2, .slice ao2 l2 c2] 28)) fun e w' => e = .returned (.int .i64 c') ∧ Below (wr.alloc (.cells #[.bool n2, .slice ao2 l2 c2] 28)).heap.size (wr.alloc (.cells #[.bool n2, .slice ao2 l2 c2] 28)) w' := fun c' hc' => check_at n2 ao2 l2 c2 _ _ (hrow.later hA) (by omega) c' (by rw [hd]; exact hc')
     have HKR : Hid (k < rs.length) := hkr
     clear hrow hn2 hd hkr
     cases d
     ·
      have hcon := hcon 10 rfl
      obtain rfl : c = 50 := by
       rw [← HC.out, if_neg]
       rw [List.all_eq_true]
       intro h
       have := h _ (List.getElem_mem HKR.out)
       rw [← rv_eq HKR.out, HD.out] at this
       cases this
      go_wp2_with (go_at_call 39; refine hcon.mono ?_; rintro e w2 ⟨rfl, hb2⟩)
      go_ret
      exact ⟨rfl, bnext hbel (bnext hA hb2)⟩
     ·
      have hcon := hcon 0 rfl
      go_wp2_with (go_at_call 39; refine hcon.mono ?_; rintro e w2 ⟨rfl, hb2⟩)
      go_roundw
      case rel => exact ⟨k + 1, by omega, by go_num, bnext hbel (bnext hA hb2), fun t ht htk => by
       by_cases e : t = k
       ·
        subst e; rw [← rv_eq ht]; exact HD.out
       ·
        exact HZ.out t ht (by omega)⟩
      case measure => simp [intOf]; omega
    ·
     obtain rfl : k = len := by omega
     obtain rfl : c = 0 := by
      rw [← HC.out, if_pos]
      rw [List.all_eq_true]
      intro r hr
      obtain ⟨t, ht, rfl⟩ := List.getElem_of_mem hr
      exact HZ.out t ht (by rw [HR.out.2.2]; exact ht)
     go_wp2
     go_ret
     exact ⟨rfl, hbel⟩
end Go.Proofs.YtpbkonafojemiaaGreatDoor
namespace Go.Proofs.YtpbkonafojemiaaGreatDoor
open Go.RowKit
def NewPO (w w' : World) (e : Ending) (p : List Int) : Prop := ∃ ao len, e = .returned (.slice ao len len) ∧ POwn w.heap.size w' ao len len p ∧ Below w.heap.size w w'
end Go.Proofs.YtpbkonafojemiaaGreatDoor
namespace Go.Proofs.YtpbkonafojemiaaGreatDoor
open Go.RowKit
theorem PMulSt.skip {p s l : List Int} {i : Nat} (h : PMulSt p s i 0 l) (hi : i < p.length) (h0 : dig p i = 0) : PMulSt p s (i + 1) 0 l := by
 refine ⟨h.1, fun x => ?_⟩
 rw [h.2 x, ev_take _ _ _ hi, h0]
 simp [ev]
theorem product_any (ao bo : Option Addr) (la ca lb cb A : Nat) (p s : List Int) (w : World) (hp : PolyAt w ao la ca p) (hs : PolyAt w bo lb cb s) (hla : 0 < la) (hlb : 0 < lb) (hla' : la ≤ 50) (hlb' : lb ≤ 50) (hA : A ≤ 100000) (hlp : Lim A p) (hls : Lim A s) :
  Calls Tryz.prog 55 #[.slice ao la ca, .slice bo lb cb] w fun e w' => NewPO w w' e (trimL (mulL p s)) := by
 have HR : Hid (PolyAt w ao la ca p ∧ PolyAt w bo lb cb s ∧ Lim A p ∧ Lim A s ∧ la = p.length ∧ lb = s.length ∧ A ≤ 100000) := ⟨hp, hs, hlp, hls, hp.hlen, hs.hlen, hA⟩
 clear hp hs hlp hls
 obtain ⟨N, hN⟩ : ∃ N : Nat, N + 1 = la + lb := ⟨la + lb - 1, by omega⟩
 have hNI : (la : Int) + (lb : Int) - 1 = (N : Int) := by omega
 have HN : Hid (N = p.length + s.length - 1 ∧ N + 1 = la + lb) := ⟨by have := HR.out.2.2.2.2; omega, hN⟩
 have hN40 : N ≤ 100 := by omega
 clear hN
 go_enter Tryz.func55, Tryz.ntmps55
 go_wp2_with (go_at_call 46; refine (room_any N _ (by omega)).mono ?_; rintro e w0 ⟨rfl, hB0, hg0, hb0⟩)
 obtain ⟨g, hg⟩ : ∃ g, g = w.heap.size := ⟨_, rfl⟩
 rw [← hg]
 have HG : Hid (w.heap.size ≤ g ∧ PBlkO w.heap.size w0 g (List.replicate N 0) ∧ g < w0.heap.size ∧ Below w.heap.size w w0) := by rw [hg]; exact ⟨Nat.le_refl _, hB0 _, hg0, hb0⟩
 clear hB0 hg0 hb0 hg hNI
 go_loopw [19] (fun ii wr => ∃ (i : Nat) (l : List Int), i ≤ la ∧ ii = .int .i64 i ∧ Below w.heap.size w wr ∧ g < wr.heap.size ∧ PBlkO w.heap.size wr g l ∧ PMulSt p s i 0 l ∧ Lim (i * lb * (2 * A + 1)) l) (fun ii _ => la - (intOf ii).toNat)
 case atStart => exact ⟨0, _, Nat.zero_le _, rfl, HG.out.2.2.2, HG.out.2.2.1, HG.out.2.1, by rw [HN.out.1]; exact PMulSt.start p s, fun t => by rw [rep_dig, lim_zero]; omega⟩
 case round =>
  obtain ⟨i, l, hi', rfl, hbel, hgw, hPB, hst, hlm⟩ := hrel
  have HS : Hid (PBlkO w.heap.size wr g l ∧ PMulSt p s i 0 l ∧ Below w.heap.size w wr ∧ Lim (i * lb * (2 * A + 1)) l) := ⟨hPB, hst, hbel, hlm⟩
  clear hPB hst hlm
  by_cases hlt : i < la
  ·
   obtain ⟨b2, off2, n2, ao2, l2, c2, rfl, f0', f1', hi2⟩ := HR.out.1.at hlt
   have f0 := (hbel.cell (p := ⟨b2, off2 + i * 2, none⟩) (cell_lt f0')).trans f0'
   have f1 := (hbel.cell (p := ⟨b2, off2 + i * 2 + 1, none⟩) (cell_lt f1')).trans f1'
   have hXa : Below wr.heap.size wr (wr.alloc (.cells #[.bool n2, .slice ao2 l2 c2] 28)) := (Below.refl _ _).alloc (Nat.le_refl _) _
   obtain ⟨ra, hra⟩ : ∃ ra, ra = wr.heap.size := ⟨_, rfl⟩
   have HBA : Hid (Boxed (wr.alloc (.cells #[.bool n2, .slice ao2 l2 c2] 28)) ra n2 ao2 l2 c2 ∧ ra < (wr.alloc (.cells #[.bool n2, .slice ao2 l2 c2] 28)).heap.size ∧ g ≠ ra) := by rw [hra]; exact ⟨⟨by simp [go_sem], by simp [go_sem]⟩, by simp, by omega⟩
   have HI2 : Hid (IntAt w n2 ao2 l2 c2 (dig p i)) := hi2
   have hl2 : l2 ≤ 100000 := by rw [hi2.lim]; have := HR.out.2.2.1 i; have := HR.out.2.2.2.2.2.2; omega
   have HL2 : Hid (l2 = lim (dig p i)) := hi2.lim
   have z1 : (0 : Int) ≤ (i : Int) := by omega
   have z2 : (i : Int) < (la : Int) := by omega
   clear hi2 f0' f1'
   by_cases hz : l2 = 0
   ·
    have HZ : Hid (dig p i = 0) := zero_of_lim (by rw [← HL2.out]; exact hz)
    have hcz : ∀ W', Calls Tryz.prog 38 #[.agg #[.bool n2, .slice ao2 l2 c2]] W' fun e w' => e = .returned (.bool true) ∧ Below W'.heap.size W' w' := fun W' => isZero_any n2 ao2 l2 c2 W' true (by simp; omega)
    clear hz hra
    go_wp2_with (go_at_call 38; refine (hcz _).mono ?_; rintro e w1 ⟨rfl, hb1⟩; have hA1 : Below wr.heap.size wr w1 := bnext hXa hb1)
    go_roundw
    case rel => exact ⟨i + 1, l, by omega, by go_num, bnext HS.out.2.2.1 hA1, Nat.lt_of_lt_of_le hgw hA1.size, HS.out.1.later hA1 hgw, HS.out.2.1.skip (by rw [← HR.out.2.2.2.2.1]; exact hlt) HZ.out, HS.out.2.2.2.mono (Nat.mul_le_mul_right _ (Nat.mul_le_mul_right _ (Nat.le_succ _)))⟩
    case measure => simp [intOf]; omega
   ·
    have hcz : ∀ W', Calls Tryz.prog 38 #[.agg #[.bool n2, .slice ao2 l2 c2]] W' fun e w' => e = .returned (.bool false) ∧ Below W'.heap.size W' w' := fun W' => isZero_any n2 ao2 l2 c2 W' false (by simp; omega)
    clear hz
    go_wp2_with (go_at_call 38; refine (hcz _).mono ?_; rintro e w1 ⟨rfl, hb1⟩; have hA1 : Below wr.heap.size wr w1 := bnext hXa hb1; have HB1 : Hid (Boxed w1 ra n2 ao2 l2 c2 ∧ ra < w1.heap.size) := ⟨HBA.out.1.later hb1 HBA.out.2.1, Nat.lt_of_lt_of_le HBA.out.2.1 hb1.size⟩)
    rw [← hra]
    have HNE : Hid (ra ≠ g ∧ True) := ⟨fun e => HBA.out.2.2 e.symm, trivial⟩
    clear hra HBA f0 f1
    go_loopw [28] (fun kk w3 => ∃ (k : Nat) (l : List Int), k ≤ lb ∧ kk = .int .i64 k ∧ Below w.heap.size w w3 ∧ g < w3.heap.size ∧ PBlkO w.heap.size w3 g l ∧ PMulSt p s i k l ∧ Lim ((i * lb + k) * (2 * A + 1)) l ∧ ra < w3.heap.size ∧ Boxed w3 ra n2 ao2 l2 c2) (fun kk _ => lb - (intOf kk).toNat)
    case atStart => exact ⟨0, l, Nat.zero_le _, rfl, bnext HS.out.2.2.1 hA1, Nat.lt_of_lt_of_le hgw hA1.size, HS.out.1.later hA1 hgw, HS.out.2.1, HS.out.2.2.2, HB1.out.2, HB1.out.1⟩
    case round =>
     obtain ⟨k, lk, hk, rfl, hbelk, hgk, hPB, hst, hlm, hrak, hbak⟩ := hrel
     have HT : Hid (PBlkO w.heap.size wr g lk ∧ PMulSt p s i k lk ∧ Below w.heap.size w wr ∧ Lim ((i * lb + k) * (2 * A + 1)) lk) := ⟨hPB, hst, hbelk, hlm⟩
     have HRA : Hid (ra < wr.heap.size) := hrak
     by_cases hkl : k < lb
     ·
      have hlk : lk.length = N := by rw [hst.1]; exact HN.out.1.symm
      have hik : i + k < N := by have := HN.out.2; omega
      obtain ⟨b3, off3, n3, ao3, l3, c3, rfl, g0, g1, hi3⟩ := (HR.out.2.1.later hbelk).at hkl
      obtain ⟨X, hX⟩ : ∃ X, X = wr.alloc (.cells #[.bool n3, .slice ao3 l3 c3] 28) := ⟨_, rfl⟩
      have hXb : Below wr.heap.size wr X := by rw [hX]; exact (Below.refl _ _).alloc (Nat.le_refl _) _
      obtain ⟨rb, hrb⟩ : ∃ rb, rb = wr.heap.size := ⟨_, rfl⟩
      have hgX : g < X.heap.size := Nat.lt_of_lt_of_le hgk hXb.size
      have HPX : Hid (PBlkO w.heap.size X g lk) := hPB.later hXb hgk
      obtain ⟨n1, ao1, l1, c1, ⟨e0, e1⟩, hs1, ho1⟩ := HPX.out.coef (i + k) (by omega)
      have HC : Hid (X.cell? ⟨g, (i + k) * 2, none⟩ = some (.bool n1) ∧ X.cell? ⟨g, (i + k) * 2 + 1, none⟩ = some (.slice ao1 l1 c1)) := ⟨e0, e1⟩
      have HBB : Hid (Boxed X rb n3 ao3 l3 c3 ∧ rb < X.heap.size ∧ rb ≠ g) := by rw [hrb, hX]; exact ⟨⟨by simp [go_sem], by simp [go_sem]⟩, by simp, by omega⟩
      have KS : Hid (∀ w', Below X.heap.size X w' → w'.cell? ⟨ra, 0, none⟩ = some (.bool n2) ∧ w'.cell? ⟨ra, 1, none⟩ = some (.slice ao2 l2 c2) ∧ w'.cell? ⟨rb, 0, none⟩ = some (.bool n3) ∧ w'.cell? ⟨rb, 1, none⟩ = some (.slice ao3 l3 c3)) := fun w' hb => ⟨((hbak.later hXb hrak).later hb (Nat.lt_of_lt_of_le hrak hXb.size)).1, ((hbak.later hXb hrak).later hb (Nat.lt_of_lt_of_le hrak hXb.size)).2, (HBB.out.1.later hb HBB.out.2.1).1, (HBB.out.1.later hb HBB.out.2.1).2⟩
      have K2 : Hid (∀ (w' : World) (j : Nat) (x : Value), (w'.cell? ⟨ra, 0, none⟩ = some (.bool n2) ∧ w'.cell? ⟨ra, 1, none⟩ = some (.slice ao2 l2 c2) ∧ w'.cell? ⟨rb, 0, none⟩ = some (.bool n3) ∧ w'.cell? ⟨rb, 1, none⟩ = some (.slice ao3 l3 c3)) → ((w'.setCell ⟨g, j, none⟩ x).cell? ⟨ra, 0, none⟩ = some (.bool n2) ∧ (w'.setCell ⟨g, j, none⟩ x).cell? ⟨ra, 1, none⟩ = some (.slice ao2 l2 c2) ∧ (w'.setCell ⟨g, j, none⟩ x).cell? ⟨rb, 0, none⟩ = some (.bool n3) ∧ (w'.setCell ⟨g, j, none⟩ x).cell? ⟨rb, 1, none⟩ = some (.slice ao3 l3 c3))) := fun w' j x h => ⟨by rw [cell_off HNE.out.1]; exact h.1, by rw [cell_off HNE.out.1]; exact h.2.1, by rw [cell_off HBB.out.2.2]; exact h.2.2.1, by rw [cell_off HBB.out.2.2]; exact h.2.2.2⟩
      have hM : (i * lb + k) * (2 * A + 1) ≤ 500002500 := by
       have h1 : i * lb ≤ 49 * 50 := Nat.mul_le_mul (by omega) (by omega)
       have h2 : (i * lb + k) * (2 * A + 1) ≤ 2500 * 200001 := Nat.mul_le_mul (by omega) (by omega)
       omega
      have hl1 : l1 ≤ 600000000 := by rw [(ho1.int hs1).lim]; have := hlm (i + k); omega
      have hl3 : l3 ≤ 100000 := by rw [hi3.lim]; have := HR.out.2.2.2.1 k; have := HR.out.2.2.2.2.2.2; omega
      have HI : Hid (IntAt X n1 ao1 l1 c1 (dig lk (i + k)) ∧ IntAt X n2 ao2 l2 c2 (dig p i) ∧ IntAt X n3 ao3 l3 c3 (dig s k)) := ⟨ho1.int hs1, (HI2.out.later hbelk).later hXb, hi3.later hXb⟩
      have hikl : Hid (i + k < lk.length) := by show i + k < _; rw [hlk]; exact hik
      have z3 : (0 : Int) ≤ (k : Int) := by omega
      have z4 : (k : Int) < (lb : Int) := by omega
      have z5 : IntKind.i64.wrap ((i : Int) + (k : Int)) = (i : Int) + (k : Int) := by rw [IntKind.wrap_i64]; omega
      have z6 : ((i : Int) + (k : Int)).toNat = i + k := by omega
      have z7 : (0 : Int) ≤ (i : Int) + (k : Int) := by omega
      have z8 : (i : Int) + (k : Int) < (N : Int) := by omega
      clear hPB hst hlk hi3 hlm hM hs1 ho1 hbak
      go_wp2
      rw [← hX, ← hrb]
      clear hX hrb g0 g1
      refine wp_region_noPanic ?_
      refine wp_region_held_drew (S := fun w' => (w'.cell? ⟨ra, 0, none⟩ = some (.bool n2) ∧ w'.cell? ⟨ra, 1, none⟩ = some (.slice ao2 l2 c2) ∧ w'.cell? ⟨rb, 0, none⟩ = some (.bool n3) ∧ w'.cell? ⟨rb, 1, none⟩ = some (.slice ao3 l3 c3))) (by kernel_rfl) (by (try dsimp only); exact KS.out _ (Below.refl _ _).drew) (fun hHeld => ?_)
      refine wpAnyH_take (i := 0) (oi := Oper.mk (some 33) _ _ _ _ _) (v := ?_) rfl (by decide +kernel) (by decide +kernel) (by decide +kernel) (fun _ _ _ h => h) (Or.inl ⟨by rfl, ?_⟩) (by assumption) ?_
      rotate_left
      ·
       (intro w hSw; (try dsimp only at hSw); go_simp <;> (try with_reducible rfl))
      (try simp only [Act.put, List.setIfInBounds_toArray, List.set_cons_zero, List.set_cons_succ])
      refine wpAnyH_take (i := 1) (oi := Oper.mk (some 34) _ _ _ _ _) (v := ?_) rfl (by decide +kernel) (by decide +kernel) (by decide +kernel) (fun _ _ _ h => h) (Or.inl ⟨by rfl, ?_⟩) (by assumption) ?_
      rotate_left
      ·
       (intro w hSw; (try dsimp only at hSw); go_simp <;> (try with_reducible rfl))
      (try simp only [Act.put, List.setIfInBounds_toArray, List.set_cons_zero, List.set_cons_succ])
      refine wpAnyH_take (i := 2) (oi := Oper.mk (some 35) _ _ _ _ _) (v := ?_) rfl (by decide +kernel) (by decide +kernel) (by decide +kernel) (fun _ _ _ h => h) (Or.inl ⟨by rfl, ?_⟩) (by assumption) ?_
      rotate_left
      ·
       (intro w hSw; (try dsimp only at hSw); go_simp <;> (try with_reducible rfl))
      (try simp only [Act.put, List.setIfInBounds_toArray, List.set_cons_zero, List.set_cons_succ])
      refine wpAnyH_take (i := 3) (oi := Oper.mk (some 36) _ _ _ _ _) (v := ?_) rfl (by decide +kernel) (by decide +kernel) (by decide +kernel) (fun _ _ _ h => h) (Or.inl ⟨by rfl, ?_⟩) (by assumption) ?_
      rotate_left
      ·
       (intro w hSw; (try dsimp only at hSw); go_simp <;> (try with_reducible rfl))
      (try simp only [Act.put, List.setIfInBounds_toArray, List.set_cons_zero, List.set_cons_succ])
      refine wpAnyH_take (i := 4) (oi := Oper.mk (some 37) _ _ _ _ _) (v := ?_) rfl (by decide +kernel) (by decide +kernel) (by decide +kernel) (fun _ _ _ h => h) (Or.inl ⟨by rfl, ?_⟩) (by assumption) ?_
      rotate_left
      ·
       (intro w hSw; (try dsimp only at hSw); go_simp <;> (try with_reducible rfl))
      (try simp only [Act.put, List.setIfInBounds_toArray, List.set_cons_zero, List.set_cons_succ])
      refine wpAnyH_take (i := 5) (oi := Oper.mk (some 38) _ _ _ _ _) (v := ?_) rfl (by decide +kernel) (by decide +kernel) (by decide +kernel) (fun _ _ _ h => h) (Or.inl ⟨by rfl, ?_⟩) (by assumption) ?_
      rotate_left
      ·
       (intro w hSw; (try dsimp only at hSw); go_simp <;> (try with_reducible rfl))
      (try simp only [Act.put, List.setIfInBounds_toArray, List.set_cons_zero, List.set_cons_succ])
      refine wpAnyH_take (i := 6) (oi := Oper.mk (some 39) _ _ _ _ _) (v := ?_) rfl (by decide +kernel) (by decide +kernel) (by decide +kernel) (fun _ _ _ h => h) (Or.inl ⟨by rfl, ?_⟩) (by assumption) ?_
      rotate_left
      ·
       (intro w hSw; (try dsimp only at hSw); go_simp <;> (try with_reducible rfl))
      (try simp only [Act.put, List.setIfInBounds_toArray, List.set_cons_zero, List.set_cons_succ])
      refine wpAnyH_take (i := 7) (oi := Oper.mk (some 40) _ _ _ _ _) (v := ?_) rfl (by decide +kernel) (by decide +kernel) (by decide +kernel) (fun _ _ _ h => h) (Or.inl ⟨by rfl, ?_⟩) (by assumption) ?_
      rotate_left
      ·
       (intro w hSw; (try dsimp only at hSw); go_simp <;> (try with_reducible rfl))
      (try simp only [Act.put, List.setIfInBounds_toArray, List.set_cons_zero, List.set_cons_succ])
      refine wpAnyH_take (i := 8) (oi := Oper.mk (some 41) _ _ _ _ _) (v := ?_) rfl (by decide +kernel) (by decide +kernel) (by decide +kernel) (fun _ _ _ h => h) (Or.inl ⟨by rfl, ?_⟩) (by assumption) ?_
      rotate_left
      ·
       (intro w hSw; (try dsimp only at hSw); go_simp <;> (try with_reducible rfl))
      (try simp only [Act.put, List.setIfInBounds_toArray, List.set_cons_zero, List.set_cons_succ])
      refine wpAnyH_take (i := 10) (oi := Oper.mk (some 43) _ _ _ _ _) (v := ?_) rfl (by decide +kernel) (by decide +kernel) (by decide +kernel) (fun _ _ _ h => h) (Or.inl ⟨by rfl, ?_⟩) (by assumption) ?_
      rotate_left
      ·
       (intro w hSw; (try dsimp only at hSw); go_simp <;> (try with_reducible rfl))
      (try simp only [Act.put, List.setIfInBounds_toArray, List.set_cons_zero, List.set_cons_succ])
      refine wpAnyH_take (i := 11) (oi := Oper.mk (some 44) _ _ _ _ _) (v := ?_) rfl (by decide +kernel) (by decide +kernel) (by decide +kernel) (fun _ _ _ h => h) (Or.inl ⟨by rfl, ?_⟩) (by assumption) ?_
      rotate_left
      ·
       (intro w hSw; (try dsimp only at hSw); go_simp <;> (try with_reducible rfl))
      (try simp only [Act.put, List.setIfInBounds_toArray, List.set_cons_zero, List.set_cons_succ])
      refine wpAnyH_ready (rs := [9, 12]) (by decide +kernel) (by simp) ?_
      refine AllReadyH.cons (o := Oper.mk (some 42) _ _ _ _ _) rfl (fun K hK => ?_) (AllReadyH.cons (o := Oper.mk (some 45) _ _ _ _ _) rfl (fun K hK => ?_) AllReadyH.nil)
      ·
       go_simp
       clear hHeld
       refine hK.out _ _ (by (try dsimp only); exact KS.out _ (Below.refl _ _).drew) (fun hHeld => ?_)
       clear hK K
       (try simp only [Act.put, List.setIfInBounds_toArray, List.set_cons_zero, List.set_cons_succ])
       refine wpAnyH_ready (rs := [12]) (by decide +kernel) (by simp) ?_
       refine AllReadyH.cons (o := Oper.mk (some 45) _ _ _ _ _) rfl (fun K hK => ?_) AllReadyH.nil
       go_simp
       (go_at_call 43; refine (pltimes_any n2 n3 ao2 ao3 l2 c2 l3 c3 (dig p i) (dig s k) _ (HI.out.2.1.later (Below.refl _ _).drew) (HI.out.2.2.later (Below.refl _ _).drew) (by omega) (by omega)).mono ?_; rintro e w4 ⟨n4, ao4, l4, c4, rfl, hs4, ho4, hb4'⟩; have hb4 : Below X.heap.size X w4 := bnext (Below.refl _ _).drew hb4'; have HI4 : Hid (IntAt w4 n4 ao4 l4 c4 (dig p i * dig s k) ∧ IntAt w4 n1 ao1 l1 c1 (dig lk (i + k))) := ⟨ho4.int hs4, HI.out.1.later hb4⟩; have hl4 : l4 ≤ 200000 := (by have h1 := (ho4.int hs4).lim; have h2 := lim_mul (dig p i) (dig s k); have h3 := HR.out.2.2.1 i; have h4 := HR.out.2.2.2.1 k; have := HR.out.2.2.2.2.2.2; omega); clear hs4 ho4 hb4'; obtain ⟨t0, t1⟩ : w4.cell? ⟨g, (i + k) * 2, none⟩ = some (.bool n1) ∧ w4.cell? ⟨g, (i + k) * 2 + 1, none⟩ = some (.slice ao1 l1 c1) := ⟨(hb4.cell (p := ⟨g, (i + k) * 2, none⟩) hgX).trans HC.out.1, (hb4.cell (p := ⟨g, (i + k) * 2 + 1, none⟩) hgX).trans HC.out.2⟩)
       (try go_wp2_with fail)
       clear hHeld
       refine hK.out _ _ (by (try dsimp only); exact KS.out _ hb4) (fun hHeld => ?_)
       clear hK K
       (try simp only [Act.put, List.setIfInBounds_toArray, List.set_cons_zero, List.set_cons_succ])
       refine wpAnyH_ready (rs := [13]) (by decide +kernel) (by simp) ?_
       refine AllReadyH.cons (o := Oper.mk (some 46) _ _ _ _ _) rfl (fun K hK => ?_) AllReadyH.nil
       go_simp
       (go_at_call 42; refine (plplus_any n1 n4 ao1 ao4 l1 c1 l4 c4 (dig lk (i + k)) (dig p i * dig s k) w4 HI4.out.2 HI4.out.1 (by omega) (by omega)).mono ?_; rintro e w5 ⟨n5, ao5, l5, c5, rfl, hs5, ho5, hb5⟩; have hb6 : Below X.heap.size X w5 := bnext hb4 hb5; have H5 : Hid (n5 = sgB (dig lk (i + k) + dig p i * dig s k) ∧ Own X.heap.size w5 .u64 56 ao5 l5 c5 (mag (dig lk (i + k) + dig p i * dig s k).natAbs)) := ⟨hs5, ho5.mono hb4.size⟩; clear hs5 ho5 hb5 t0 t1; have HP2 := HPX.out.later hb6 hgX; have hfz := HP2.soft; clear HP2; obtain ⟨r0, r1⟩ : w5.cell? ⟨g, (i + k) * 2, none⟩ = some (.bool n1) ∧ w5.cell? ⟨g, (i + k) * 2 + 1, none⟩ = some (.slice ao1 l1 c1) := ⟨(hb6.cell (p := ⟨g, (i + k) * 2, none⟩) hgX).trans HC.out.1, (hb6.cell (p := ⟨g, (i + k) * 2 + 1, none⟩) hgX).trans HC.out.2⟩)
       (try go_wp2_with fail)
       clear hHeld
       refine hK.out _ _ (by (try dsimp only); exact KS.out _ hb6) (fun hHeld => ?_)
       clear hK K
       (try simp only [Act.put, List.setIfInBounds_toArray, List.set_cons_zero, List.set_cons_succ])
       refine wpAnyH_take (i := 14) (oi := Oper.mk (some 47) _ _ _ _ _) (v := ?_) rfl (by decide +kernel) (by decide +kernel) (by decide +kernel) (fun _ _ _ h => h) (Or.inl ⟨by rfl, ?_⟩) (by assumption) ?_
       rotate_left
       ·
        (intro w hSw; (try dsimp only at hSw); go_simp <;> (try with_reducible rfl))
       (try simp only [Act.put, List.setIfInBounds_toArray, List.set_cons_zero, List.set_cons_succ])
       refine wpAnyH_ready (rs := [15]) (by decide +kernel) (by simp) ?_
       refine AllReadyH.cons (o := Oper.mk none _ _ _ _ _) rfl (fun K hK => ?_) AllReadyH.nil
       go_simp
       clear hHeld
       refine hK.out _ _ (by (try dsimp only); exact K2.out _ _ _ (K2.out _ _ _ (KS.out _ hb6))) (fun hHeld => ?_)
       clear hK K
       (try simp only [Act.put, List.setIfInBounds_toArray, List.set_cons_zero, List.set_cons_succ])
       refine wpAnyH_done (by decide +kernel) ?_ _
       refine NoPanic.normal ?_
       go_wp2
       go_roundw
       case rel => exact ⟨k + 1, lk.set (i + k) (dig lk (i + k) + dig p i * dig s k), by omega, by go_num, ((bnext HT.out.2.2.1 (bnext hXb hb6)).setCell (p := ⟨g, (i + k) * 2, none⟩) HG.out.1 _).setCell (p := ⟨g, (i + k) * 2 + 1, none⟩) HG.out.1 _, by (have := hb6.size; have := hXb.size; simp; omega), HPX.out.put hb6 hgX (Nat.le_trans HT.out.2.2.1.size hXb.size) hikl.out H5.out.1 H5.out.2, HT.out.2.1.step (by rw [← HR.out.2.2.2.2.1]; exact hlt) (by rw [← HR.out.2.2.2.2.2.1]; exact hkl), mul_lims HT.out.2.2.2 (HR.out.2.2.1 i) (HR.out.2.2.2.1 k), by (have := hb6.size; have := HRA.out; have := hXb.size; simp; omega), ⟨by rw [cell_off HNE.out.1, cell_off HNE.out.1]; exact (KS.out _ hb6).1, by rw [cell_off HNE.out.1, cell_off HNE.out.1]; exact (KS.out _ hb6).2.1⟩⟩
       case measure => simp [intOf]; omega
      ·
       go_simp
       (go_at_call 43; refine (pltimes_any n2 n3 ao2 ao3 l2 c2 l3 c3 (dig p i) (dig s k) _ (HI.out.2.1.later (Below.refl _ _).drew) (HI.out.2.2.later (Below.refl _ _).drew) (by omega) (by omega)).mono ?_; rintro e w4 ⟨n4, ao4, l4, c4, rfl, hs4, ho4, hb4'⟩; have hb4 : Below X.heap.size X w4 := bnext (Below.refl _ _).drew hb4'; have HI4 : Hid (IntAt w4 n4 ao4 l4 c4 (dig p i * dig s k) ∧ IntAt w4 n1 ao1 l1 c1 (dig lk (i + k))) := ⟨ho4.int hs4, HI.out.1.later hb4⟩; have hl4 : l4 ≤ 200000 := (by have h1 := (ho4.int hs4).lim; have h2 := lim_mul (dig p i) (dig s k); have h3 := HR.out.2.2.1 i; have h4 := HR.out.2.2.2.1 k; have := HR.out.2.2.2.2.2.2; omega); clear hs4 ho4 hb4'; obtain ⟨t0, t1⟩ : w4.cell? ⟨g, (i + k) * 2, none⟩ = some (.bool n1) ∧ w4.cell? ⟨g, (i + k) * 2 + 1, none⟩ = some (.slice ao1 l1 c1) := ⟨(hb4.cell (p := ⟨g, (i + k) * 2, none⟩) hgX).trans HC.out.1, (hb4.cell (p := ⟨g, (i + k) * 2 + 1, none⟩) hgX).trans HC.out.2⟩)
       (try go_wp2_with fail)
       clear hHeld
       refine hK.out _ _ (by (try dsimp only); exact KS.out _ hb4) (fun hHeld => ?_)
       clear hK K
       (try simp only [Act.put, List.setIfInBounds_toArray, List.set_cons_zero, List.set_cons_succ])
       refine wpAnyH_ready (rs := [9]) (by decide +kernel) (by simp) ?_
       refine AllReadyH.cons (o := Oper.mk (some 42) _ _ _ _ _) rfl (fun K hK => ?_) AllReadyH.nil
       go_simp
       clear hHeld
       refine hK.out _ _ (by (try dsimp only); exact KS.out _ hb4) (fun hHeld => ?_)
       clear hK K
       (try simp only [Act.put, List.setIfInBounds_toArray, List.set_cons_zero, List.set_cons_succ])
       refine wpAnyH_ready (rs := [13]) (by decide +kernel) (by simp) ?_
       refine AllReadyH.cons (o := Oper.mk (some 46) _ _ _ _ _) rfl (fun K hK => ?_) AllReadyH.nil
       go_simp
       (go_at_call 42; refine (plplus_any n1 n4 ao1 ao4 l1 c1 l4 c4 (dig lk (i + k)) (dig p i * dig s k) w4 HI4.out.2 HI4.out.1 (by omega) (by omega)).mono ?_; rintro e w5 ⟨n5, ao5, l5, c5, rfl, hs5, ho5, hb5⟩; have hb6 : Below X.heap.size X w5 := bnext hb4 hb5; have H5 : Hid (n5 = sgB (dig lk (i + k) + dig p i * dig s k) ∧ Own X.heap.size w5 .u64 56 ao5 l5 c5 (mag (dig lk (i + k) + dig p i * dig s k).natAbs)) := ⟨hs5, ho5.mono hb4.size⟩; clear hs5 ho5 hb5 t0 t1; have HP2 := HPX.out.later hb6 hgX; have hfz := HP2.soft; clear HP2; obtain ⟨r0, r1⟩ : w5.cell? ⟨g, (i + k) * 2, none⟩ = some (.bool n1) ∧ w5.cell? ⟨g, (i + k) * 2 + 1, none⟩ = some (.slice ao1 l1 c1) := ⟨(hb6.cell (p := ⟨g, (i + k) * 2, none⟩) hgX).trans HC.out.1, (hb6.cell (p := ⟨g, (i + k) * 2 + 1, none⟩) hgX).trans HC.out.2⟩)
       (try go_wp2_with fail)
       clear hHeld
       refine hK.out _ _ (by (try dsimp only); exact KS.out _ hb6) (fun hHeld => ?_)
       clear hK K
       (try simp only [Act.put, List.setIfInBounds_toArray, List.set_cons_zero, List.set_cons_succ])
       refine wpAnyH_take (i := 14) (oi := Oper.mk (some 47) _ _ _ _ _) (v := ?_) rfl (by decide +kernel) (by decide +kernel) (by decide +kernel) (fun _ _ _ h => h) (Or.inl ⟨by rfl, ?_⟩) (by assumption) ?_
       rotate_left
       ·
        (intro w hSw; (try dsimp only at hSw); go_simp <;> (try with_reducible rfl))
       (try simp only [Act.put, List.setIfInBounds_toArray, List.set_cons_zero, List.set_cons_succ])
       refine wpAnyH_ready (rs := [15]) (by decide +kernel) (by simp) ?_
       refine AllReadyH.cons (o := Oper.mk none _ _ _ _ _) rfl (fun K hK => ?_) AllReadyH.nil
       go_simp
       clear hHeld
       refine hK.out _ _ (by (try dsimp only); exact K2.out _ _ _ (K2.out _ _ _ (KS.out _ hb6))) (fun hHeld => ?_)
       clear hK K
       (try simp only [Act.put, List.setIfInBounds_toArray, List.set_cons_zero, List.set_cons_succ])
       refine wpAnyH_done (by decide +kernel) ?_ _
       refine NoPanic.normal ?_
       go_wp2
       go_roundw
       case rel => exact ⟨k + 1, lk.set (i + k) (dig lk (i + k) + dig p i * dig s k), by omega, by go_num, ((bnext HT.out.2.2.1 (bnext hXb hb6)).setCell (p := ⟨g, (i + k) * 2, none⟩) HG.out.1 _).setCell (p := ⟨g, (i + k) * 2 + 1, none⟩) HG.out.1 _, by (have := hb6.size; have := hXb.size; simp; omega), HPX.out.put hb6 hgX (Nat.le_trans HT.out.2.2.1.size hXb.size) hikl.out H5.out.1 H5.out.2, HT.out.2.1.step (by rw [← HR.out.2.2.2.2.1]; exact hlt) (by rw [← HR.out.2.2.2.2.2.1]; exact hkl), mul_lims HT.out.2.2.2 (HR.out.2.2.1 i) (HR.out.2.2.2.1 k), by (have := hb6.size; have := HRA.out; have := hXb.size; simp; omega), ⟨by rw [cell_off HNE.out.1, cell_off HNE.out.1]; exact (KS.out _ hb6).1, by rw [cell_off HNE.out.1, cell_off HNE.out.1]; exact (KS.out _ hb6).2.1⟩⟩
       case measure => simp [intOf]; omega
     ·
      obtain rfl : k = lb := by omega
      have HO : Hid (PMulSt p s (i + 1) 0 lk) := PMulSt.row (by have := HT.out.2.1; rw [← HR.out.2.2.2.2.2.1]; exact this) (by rw [← HR.out.2.2.2.2.1]; exact hlt)
      go_wp2
      go_roundw
      case rel => exact ⟨i + 1, lk, by omega, by go_num, HT.out.2.2.1, hgk, HT.out.1, HO.out, by rw [Nat.succ_mul]; exact HT.out.2.2.2⟩
      case measure => simp [intOf]; omega
  ·
   obtain rfl : i = la := by omega
   have HD : Hid (l = mulL p s ∧ N = l.length) := by
    have e1 : l = mulL p s := PMulSt.done (by have := HS.out.2.1; rw [← HR.out.2.2.2.2.1]; exact this) (by rw [← HR.out.2.2.2.2.2.1]; exact hlb)
    exact ⟨e1, by rw [HS.out.2.1.1]; exact HN.out.1⟩
   have HPP : Hid (PolyAt wr (some ⟨g, 0, none⟩) N N l) := HS.out.1.blk.poly HD.out.2
   go_wp2_with (go_at_call 52; refine (trimmed_any (some ⟨g, 0, none⟩) N N l _ HPP.out (by omega)).mono ?_; rintro e w1 ⟨ao', m, hm, rfl, h0, h1, hb1⟩; have HO : Hid (POwn w.heap.size w1 ao' m m (trimL (mulL p s))) := (by rw [← HD.out.1]; exact (HS.out.1.later hb1 hgw).trim HG.out.1 (Nat.lt_of_lt_of_le hgw hb1.size) hm h0 h1); clear hm h0 h1)
   go_ret
   exact ⟨_, _, rfl, HO.out, bnext HS.out.2.2.1 hb1⟩
end Go.Proofs.YtpbkonafojemiaaGreatDoor
