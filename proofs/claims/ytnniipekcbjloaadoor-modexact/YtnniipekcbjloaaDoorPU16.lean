/-
  PD: walks: the page's Power, Over, Scale, Monic modulo p.
-/
import Derived.Test.YtnniipekcbjloaaDoorPU03
import Derived.Test.YtnniipekcbjloaaDoorPU04
import Derived.Test.YtnniipekcbjloaaDoorPU15
import Derived.Deep.AppendLies
import Derived.BigRegion
import Derived.Laws.OwnMore
import Derived.Lib.RabinKarpLaws
namespace Go.Proofs.YtnniipekcbjloaaDoor
open Go.RowKit Go.Shelf
set_option linter.unusedVariables false
set_option linter.unusedSimpArgs false
theorem emod_pow (a p : Int) : ∀ n : Nat, (a % p) ^ n % p = a ^ n % p
  | 0 => by simp
  | n + 1 => by rw [Int.pow_succ, Int.pow_succ, Int.mul_emod, emod_pow a p n, Int.emod_emod_of_dvd _ (Int.dvd_refl p), ← Int.mul_emod]
theorem emod_mul_r (a b p : Int) : a * (b % p) % p = a * b % p := by rw [Int.mul_comm, emod_mul, Int.mul_comm]
theorem pow_even (x a p : Int) {n : Nat} (h : n % 2 = 0) : x * (a * a % p) ^ (n / 2) % p = x * a ^ n % p := by
  rw [← emod_mul_r, emod_pow, emod_mul_r]
  have e : a ^ n = (a * a) ^ (n / 2) := by
    have : n = n / 2 + n / 2 := by omega
    rw [Int.mul_pow, ← Int.pow_add, ← this]
  rw [e]
theorem pow_odd (x a p : Int) {n : Nat} (h : n % 2 = 1) : (x * a % p) * (a * a % p) ^ (n / 2) % p = x * a ^ n % p := by
  rw [emod_mul, ← emod_mul_r, emod_pow, emod_mul_r]
  have e : a ^ n = a * (a * a) ^ (n / 2) := by
    have : n = n / 2 + n / 2 + 1 := by omega
    rw [Int.mul_pow, ← Int.pow_add]
    conv => lhs; rw [this, Int.pow_succ]
    exact Int.mul_comm _ _
  rw [e, Int.mul_assoc]
theorem mod_in {p : Int} (hp : 0 < p) (a : Int) : 0 ≤ a % p ∧ a % p < p := ⟨Int.emod_nonneg _ (by omega), Int.emod_lt_of_pos _ hp⟩
theorem mul_in {p a b : Int} (hp : p ≤ 2147483648) (ha : 0 ≤ a ∧ a < p) (hb : 0 ≤ b ∧ b < p) : 0 ≤ a * b ∧ a * b ≤ 4611686018427387904 := by
  refine ⟨Int.mul_nonneg ha.1 hb.1, ?_⟩
  have : a * b ≤ 2147483648 * 2147483648 := Int.mul_le_mul (by omega) (by omega) hb.1 (by decide)
  omega
set_option maxRecDepth 100000 in
set_option maxHeartbeats 1000000 in
theorem rpower_any (p a r : Int) (n : Nat) (w : World) (hp : 2 ≤ p ∧ p ≤ 2147483648) (ha : 0 ≤ a ∧ a < p) (hn : n < 18446744073709551616) (hr : a ^ n % p = r) :
    Calls Tryd.prog 64 #[.int .u64 a, .int .u64 (n : Int), .int .u64 p] w fun e w' => e = .returned (.int .u64 r) ∧ w' = w := by
  have HP : Hid ((0 < p ∧ p ≤ 2147483648) ∧ 2 ≤ p) := ⟨⟨by omega, hp.2⟩, hp.1⟩
  have h1p : (1 : Int).tmod p = 1 := by rw [Int.tmod_eq_emod_of_nonneg (by decide)]; exact Int.emod_eq_of_lt (by decide) (by omega)
  have hz : (p == 0) = false := by simp; omega
  have hz1 : ¬ p = 0 := by omega
  have HR : Hid (1 * a ^ n % p = r) := by show _ = _; rw [Int.one_mul]; exact hr
  have HA : Hid (0 ≤ a ∧ a < p) := ha
  obtain ⟨hp0, hp1⟩ := hp
  clear hr ha
  go_enter Tryd.func64, Tryd.ntmps64
  go_wp2
  go_loop [0, 1, 7] (fun s t u => ∃ (av xv : Int) (nv : Nat), s = .int .u64 av ∧ t = .int .u64 (nv : Int) ∧ u = .int .u64 xv ∧ Hid ((0 ≤ av ∧ av < p) ∧ (0 ≤ xv ∧ xv < p) ∧ nv < 18446744073709551616 ∧ xv * av ^ nv % p = r)) (fun _ t _ => (intOf t).toNat)
  case atStart => exact ⟨a, 1, n, rfl, rfl, rfl, HA.out, ⟨by decide, by have := HP.out.2; omega⟩, hn, HR.out⟩
  case round =>
    obtain ⟨av, xv, nv, rfl, rfl, rfl, HS⟩ := hrel
    clear h1p
    by_cases h0 : nv = 0
    · subst h0
      have HE : Hid (xv = r) := by
        show _ = _
        have h := HS.out.2.2.2
        rw [Int.pow_zero, Int.mul_one] at h
        rw [← h]; exact (Int.emod_eq_of_lt HS.out.2.1.1 HS.out.2.1.2).symm
      go_wp2
      go_ret
      exact ⟨ret_int HE.out, rfl⟩
    · have q0 : (0 : Int) < (nv : Int) := by omega
      obtain ⟨m, hm⟩ : ∃ m, nv / 2 = m := ⟨_, rfl⟩
      have hd : (nv : Int).tdiv 2 = (m : Int) := by rw [Int.tdiv_eq_ediv_of_nonneg (by omega)]; omega
      have hd2 : (nv : Int) / 2 = (m : Int) := by omega
      obtain ⟨s1, hs1⟩ : ∃ s, av * av = s := ⟨_, rfl⟩
      have hs1b : 0 ≤ s1 ∧ s1 ≤ 4611686018427387904 := by rw [← hs1]; exact mul_in hp1 HS.out.1 HS.out.1
      obtain ⟨hs10, hs11⟩ := hs1b
      obtain ⟨t1, ht1⟩ : ∃ t, s1 % p = t := ⟨_, rfl⟩
      have htm1 : s1.tmod p = t1 := by rw [Int.tmod_eq_emod_of_nonneg hs10]; exact ht1
      have HT1 : Hid (0 ≤ t1 ∧ t1 < p) := by rw [← ht1]; exact mod_in HP.out.1.1 _
      have hnv : nv < 18446744073709551616 := HS.out.2.2.1
      have hmv : Hid (m < 18446744073709551616 ∧ m < nv) := ⟨by omega, by omega⟩
      by_cases hb : nv % 2 = 1
      · obtain ⟨s2, hs2⟩ : ∃ s, xv * av = s := ⟨_, rfl⟩
        have hs2b : 0 ≤ s2 ∧ s2 ≤ 4611686018427387904 := by rw [← hs2]; exact mul_in hp1 HS.out.2.1 HS.out.1
        obtain ⟨hs20, hs21⟩ := hs2b
        obtain ⟨t2, ht2⟩ : ∃ t, s2 % p = t := ⟨_, rfl⟩
        have htm2 : s2.tmod p = t2 := by rw [Int.tmod_eq_emod_of_nonneg hs20]; exact ht2
        have HT2 : Hid (0 ≤ t2 ∧ t2 < p) := by rw [← ht2]; exact mod_in HP.out.1.1 _
        have HE : Hid (t2 * t1 ^ m % p = r) := by
          show _ = _
          rw [← ht1, ← ht2, ← hs1, ← hs2, ← hm, pow_odd xv av p hb]; exact HS.out.2.2.2
        have hmod : (nv : Int).tmod 2 = 1 := by rw [Int.tmod_eq_emod_of_nonneg (by omega)]; omega
        have hmod2 : (nv : Int) % 2 = 1 := by omega
        clear hm hb h0
        go_wp2
        go_round
        case rel => exact ⟨t1, t2, m, rfl, rfl, rfl, HT1.out, HT2.out, hmv.out.1, HE.out⟩
        case measure => (have := hmv.out.2; simp [intOf]; omega)
      · have HE : Hid (xv * t1 ^ m % p = r) := by
          show _ = _
          rw [← ht1, ← hs1, ← hm, pow_even xv av p (by omega)]; exact HS.out.2.2.2
        have hmod : (nv : Int).tmod 2 = 0 := by rw [Int.tmod_eq_emod_of_nonneg (by omega)]; omega
        have hmod2 : (nv : Int) % 2 = 0 := by omega
        clear hm hb h0
        go_wp2
        go_round
        case rel => exact ⟨t1, xv, m, rfl, rfl, rfl, HT1.out, HS.out.2.1, hmv.out.1, HE.out⟩
        case measure => (have := hmv.out.2; simp [intOf]; omega)
set_option maxHeartbeats 400000 in
theorem rover_any (p a r : Int) (w : World) (hp : 2 ≤ p ∧ p ≤ 2147483648) (ha : 0 ≤ a ∧ a < p) (hr : a ^ (p.toNat - 2) % p = r) :
    Calls Tryd.prog 42 #[.int .u64 a, .int .u64 p] w fun e w' => e = .returned (.int .u64 r) ∧ w' = w := by
  obtain ⟨n, rfl⟩ : ∃ n : Nat, p = (n : Int) + 2 := ⟨p.toNat - 2, by omega⟩
  rw [show ((n : Int) + 2).toNat - 2 = n by omega] at hr
  have hcon := rpower_any ((n : Int) + 2) a r n w hp ha (by omega) hr
  have hn : (n : Int) ≤ 2147483646 := by omega
  have e : (n : Int) + 2 - 2 = (n : Int) := by omega
  clear hr hp ha
  go_enter Tryd.func42, Tryd.ntmps42
  go_wp2_with (go_at_call 64; refine hcon.mono ?_; rintro e w3 ⟨rfl, hw3⟩; replace hw3 := hw3.symm; subst hw3)
  go_ret
  exact ⟨rfl, rfl⟩
/-- each coefficient times c -/
def scL (p c : Int) (f : List Int) : List Int := f.map fun z => z * c % p
/-- a row that has been trimmed -/
def TrimOf (zs L : List Int) : Prop := ∃ n, n ≤ L.length ∧ zs = L.take n ∧ Can zs ∧ ∀ t, n ≤ t → dig L t = 0
theorem TrimOf.can {zs L : List Int} (h : TrimOf zs L) (hc : Can L) : zs = L := by
  obtain ⟨n, h1, rfl, h2, h3⟩ := h
  by_cases hn : n = L.length
  · rw [hn, List.take_length]
  · exfalso
    exact can_dig hc (by omega) (h3 (L.length - 1) (by omega))
theorem TrimOf.dig {zs L : List Int} (h : TrimOf zs L) (t : Nat) : dig zs t = dig L t := by
  obtain ⟨n, h1, rfl, h2, h3⟩ := h
  by_cases hn : t < n
  · exact dig_take hn
  · rw [dig_past (by simp; omega), h3 t (by omega)]
theorem TrimOf.wd {p : Int} {zs L : List Int} (h : TrimOf zs L) (hw : Wd p L) : Wd p zs := by
  obtain ⟨n, h1, rfl, h2, h3⟩ := h
  exact hw.take n
/-- a row of the page's -/
def PageF (p : Int) (w w' : World) (e : Ending) (P : List Int → Prop) : Prop :=
  ∃ ao len cap zs, e = .returned (.slice ao len cap) ∧ FRow p w' ao len cap zs ∧ P zs ∧ Below w.heap.size w w'
set_option maxRecDepth 100000 in
set_option maxHeartbeats 2000000 in
theorem rscale_any (p c : Int) (ao : Option Addr) (la ca : Nat) (f : List Int) (w : World) (hp : 2 ≤ p ∧ p ≤ 2147483648) (hc : 0 ≤ c ∧ c < p) (hf : FRow p w ao la ca f) :
    Calls Tryd.prog 41 #[.slice ao la ca, .int .u64 c, .int .u64 p] w fun e w' => PageF p w w' e fun zs => TrimOf zs (scL p c f) := by
  have HF : Hid (FRow p w ao la ca f ∧ la = f.length ∧ (0 ≤ c ∧ c < p) ∧ (0 < p ∧ p ≤ 2147483648)) := ⟨hf, hf.row.hlen, hc, by omega, hp.2⟩
  have hl4 := hf.short
  have hz : (p == 0) = false := by simp; omega
  have hz1 : ¬ p = 0 := by omega
  obtain ⟨hp0, hp1⟩ := hp
  obtain ⟨i0, hi, hz0, hz1', hz2⟩ := info_parts info64
  clear hf hc
  go_enter Tryd.func41, Tryd.ntmps41
  go_wp2
  go_loopw [7, 8] (fun v i wr => ∃ k : Nat, k ≤ la ∧ i = .int .i64 k ∧ wr.ownsRow w.heap.size 25 1 v k (((scL p c f).take k).map (Value.int .u64)) ∧ Below w.heap.size w wr) (fun _ i _ => la - (intOf i).toNat)
  case atStart => exact ⟨0, Nat.zero_le _, rfl, World.ownsRow_nil _ _ _ _, Below.refl _ _⟩
  case round =>
    obtain ⟨k, hk, rfl, hown, hbel⟩ := hrel
    by_cases hlt : k < la
    · obtain ⟨b, off, rfl, _, hx, hx0, hx1⟩ := (HF.out.1.later hbel).cell HF.out.2.2.2.1 hlt
      obtain ⟨x, hxd⟩ : ∃ x, dig f k = x := ⟨_, rfl⟩
      rw [hxd] at hx hx0 hx1
      obtain ⟨s, hs⟩ : ∃ s, x * c = s := ⟨_, rfl⟩
      have hsb : 0 ≤ s ∧ s ≤ 4611686018427387904 := by rw [← hs]; exact mul_in hp1 ⟨hx0, hx1⟩ HF.out.2.2.1
      obtain ⟨hs0, hs1⟩ := hsb
      obtain ⟨y, hy⟩ : ∃ y, s % p = y := ⟨_, rfl⟩
      have hym : s.tmod p = y := by rw [Int.tmod_eq_emod_of_nonneg hs0]; exact hy
      have h63 : Hid (k + 1 ≤ maxLen) := by show _ ≤ _; unfold maxLen; omega
      have hby : Hid ((k + 1) * 8 ≤ 140737488355328) := by show _ ≤ _; omega
      have hbz : Hid (w.heap.size ≤ wr.heap.size + 1) := by show _ ≤ _; have := hbel.size; omega
      have HX : Hid (((scL p c f).take (k + 1)).map (Value.int .u64) = ((scL p c f).take k).map (Value.int .u64) ++ [.int .u64 y]) := by
        show _ = _
        have hkl : k < (scL p c f).length := by simp [scL]; rw [← HF.out.2.1]; exact hlt
        have a1 : (scL p c f).getD k 0 = y := by
          have : dig (scL p c f) k = y := by rw [scL, mapF_dig _ _ _ (by rw [← HF.out.2.1]; exact hlt), hxd, hs, hy]
          exact this
        rw [take_getD hkl, List.map_append, a1]; rfl
      clear hxd hx0 hx1 hy
      go_wp2_with (at_builtin; refine wpList_append_lies _ rfl _ _ 24 rfl w.heap.size 25 i0 (.int .u64 0) 1 8 Tryd.underlying24 hi hz0 hz1' hz2 rfl (by decide) _ k _ rfl (hown.alloc _) ⟨wr.heap.size, 0, none⟩ 1 1 [.int .u64 y] rfl rfl (World.news_of_block (cs := #[.int .u64 y]) (t := 25) (fr := (0, 0)) (heap_alloc_new wr _)) (by simp [Value.oneCell']) (by decide) h63.out hby.out (by simpa using hbz.out) (wr.heap.size + 1) (by simp) ?_; intro g cp w1 hown1 hgrow hat hltg)
      have hB1 : Below w.heap.size w w1 := (hbel.alloc hbel.size _).grown hgrow (by simpa using hbz.out) (own_from hown)
      go_roundw
      case rel => exact ⟨k + 1, by omega, by go_num, by rw [HX.out]; exact hown1, hB1⟩
      case measure => simp [intOf]; omega
    · obtain rfl : k = la := by omega
      have hlen : (scL p c f).length = k := by simp [scL]; exact HF.out.2.1.symm
      have hkl : Hid ((scL p c f).take k = scL p c f) := List.take_of_length_le (by omega)
      rw [hkl.out] at hown
      obtain ⟨ao1, c1, hv, hrow⟩ := row_of_owns hlen hown
      subst hv
      have hcap := cap_of_owns hown
      have HE : Hid (RowAt wr .u64 ao1 k c1 (scL p c f) ∧ (scL p c f).length = k ∧ Wd p (scL p c f) ∧ Below w.heap.size w wr ∧ c1 ≤ 9223372036854775807) := ⟨hrow, hlen, fun z hz => by
        obtain ⟨y, _, rfl⟩ := List.mem_map.1 hz
        exact mod_in HF.out.2.2.2.1 _, hbel, hcap⟩
      have HT := rtrim_any ao1 k c1 (scL p c f) wr hrow hcap
      clear hrow hown hlen hbel
      go_wp2_with (go_at_call 40; refine HT.mono ?_; rintro e w4 ⟨⟨n, hn, rfl, hcan, hz⟩, hw4⟩; replace hw4 := hw4.symm; subst hw4; have HZ : Hid (n ≤ k ∧ Can ((scL p c f).take n) ∧ ∀ t, n ≤ t → dig (scL p c f) t = 0) := ⟨hn, hcan, hz⟩; clear hn hcan hz)
      go_ret
      exact ⟨_, _, _, (scL p c f).take n, rfl, ⟨HE.out.1.take HZ.out.1, HE.out.2.2.1.take n, by have := HZ.out.1; omega⟩, ⟨n, by rw [HE.out.2.1]; exact HZ.out.1, rfl, HZ.out.2⟩, HE.out.2.2.2.1⟩
set_option maxRecDepth 100000 in
set_option maxHeartbeats 2000000 in
theorem rmonic_any (p : Int) (ao : Option Addr) (la ca : Nat) (f : List Int) (w : World) (hpr : IsPr p) (hp : p ≤ 2147483648) (hf : FRow p w ao la ca f) (hc : Can f) :
    Calls Tryd.prog 10 #[.slice ao la ca, .int .u64 p] w fun e w' => PageF p w w' e fun zs => zs = monL p f := by
  have hp2 := hpr.two
  by_cases h0 : la = 0
  · subst h0
    have hn : f = [] := List.eq_nil_of_length_eq_zero hf.row.hlen.symm
    have HN : Hid (PageF p w w (.returned (.slice none 0 0)) fun zs => zs = monL p f) := ⟨_, _, _, [], rfl, ⟨RowAt.nilRow w .u64, Wd.nil _, by decide⟩, by rw [hn]; rfl, Below.refl _ _⟩
    clear hn hf hp hpr hp2 hc
    go_enter Tryd.func10, Tryd.ntmps10
    go_wp2
    go_ret
    exact HN.out
  · have hla4 := hf.short
    obtain ⟨b, off, rfl, hb, hcl, hc0, hc1⟩ := hf.cell (p := p) (by omega) (k := la - 1) (by omega)
    have hll : Hid (la = f.length) := hf.row.hlen
    obtain ⟨a, ha⟩ : ∃ a, dig f (la - 1) = a := ⟨_, rfl⟩
    rw [ha] at hcl hc0 hc1
    obtain ⟨c, hcc⟩ : ∃ c, a ^ (p.toNat - 2) % p = c := ⟨_, rfl⟩
    have HO : Hid (∀ W, Calls Tryd.prog 42 #[.int .u64 a, .int .u64 p] W fun e w' => e = .returned (.int .u64 c) ∧ w' = W) := fun W => rover_any p a c W ⟨hp2, hp⟩ ⟨hc0, hc1⟩ hcc
    have HC : Hid (leadInv p f = c) := by show _ = _; rw [leadInv, ← hll.out, ha, hcc]
    have HS : Hid (Calls Tryd.prog 41 #[.slice (some ⟨b, off, none⟩) la ca, .int .u64 c, .int .u64 p] w fun e w' => PageF p w w' e fun zs => zs = monL p f) := by
      refine (rscale_any p c _ la ca f w ⟨hp2, hp⟩ (by rw [← HC.out]; exact leadInv_in (by omega) f) hf).mono fun e w' h => ?_
      obtain ⟨o, l, k, zs, he, h1, h3, h4⟩ := h
      have e2 : scL p c f = monL p f := by rw [← HC.out]; rfl
      rw [e2] at h3
      exact ⟨o, l, k, zs, he, h1, h3.can (monL_pm hpr ⟨hf.wd, hc⟩).can, h4⟩
    have e0 : ((la : Int) == 0) = false := by simp; omega
    have e1 : (la : Int) - 1 = ((la - 1 : Nat) : Int) := by omega
    have e2 : la - 1 < la := by omega
    clear hf hc hpr hp2 ha hcc h0
    go_enter Tryd.func10, Tryd.ntmps10
    go_wp2_with (first
      | (go_at_call 42; refine (HO.out _).mono ?_; rintro e w1 ⟨rfl, hw1⟩; replace hw1 := hw1.symm; subst hw1)
      | (go_at_call 41; refine HS.out.mono ?_; rintro e w2 ⟨o, l, k, zs, rfl, hrest⟩))
    go_ret
    exact ⟨o, l, k, zs, rfl, hrest⟩
end Go.Proofs.YtnniipekcbjloaaDoor
/-
  PE: in plain: division by steps from the top; walks: the page's Times and DivMod modulo p.
-/
namespace Go.Proofs.YtnniipekcbjloaaDoor
open Go.RowKit Go.Shelf
set_option linter.unusedVariables false
set_option linter.unusedSimpArgs false
theorem rmL_set (p : Int) (L : List Int) (j : Nat) (v : Int) : rmL p (L.set j v) = (rmL p L).set j (v % p) := by simp [rmL, List.map_set]
theorem add_mod_mul (y s p : Int) : (y % p + s % p) % p = (y + s) % p := (Int.add_emod y s p).symm
set_option maxRecDepth 100000 in
set_option maxHeartbeats 4000000 in
theorem rtimesF_any (p : Int) (ao bo : Option Addr) (la ca lb cb : Nat) (f g : List Int) (w : World) (hpr : IsPr p) (hp : p ≤ 2147483648) (hf : FRow p w ao la ca f) (hg : FRow p w bo lb cb g) (hfp : Pm p f) (hgp : Pm p g) (hl : la + lb ≤ 4194304) :
    Calls Tryd.prog 13 #[.slice ao la ca, .slice bo lb cb, .int .u64 p] w fun e w' => PageF p w w' e fun zs => zs = prodL p f g := by
  have hp2 := hpr.two
  by_cases h0 : la = 0 ∨ lb = 0
  · have hn : f = [] ∨ g = [] := by
      have h1 := hf.row.hlen; have h2 := hg.row.hlen
      rcases h0 with h | h
      · exact Or.inl (List.eq_nil_of_length_eq_zero (by omega))
      · exact Or.inr (List.eq_nil_of_length_eq_zero (by omega))
    have HN : Hid (PageF p w w (.returned (.slice none 0 0)) fun zs => zs = prodL p f g) := ⟨_, _, _, [], rfl, ⟨RowAt.nilRow w .u64, Wd.nil _, by decide⟩, by rw [prodL, if_pos hn], Below.refl _ _⟩
    clear hn hf hg hp hpr hfp hgp hp2
    by_cases ha : la = 0
    · subst ha
      go_enter Tryd.func13, Tryd.ntmps13
      go_wp2
      go_ret
      exact HN.out
    · have q1 : ((la : Int) == 0) = false := by simp; omega
      have hb : lb = 0 := by omega
      subst hb
      clear h0 ha
      go_enter Tryd.func13, Tryd.ntmps13
      go_wp2
      go_ret
      exact HN.out
  · have hla : 0 < la := by omega
    have hlb : 0 < lb := by omega
    have hn : ¬ (f = [] ∨ g = []) := by
      have h1 := hf.row.hlen; have h2 := hg.row.hlen
      intro h
      rcases h with h | h <;> subst h <;> simp at h1 h2 <;> omega
    have HF : Hid (FRow p w ao la ca f ∧ FRow p w bo lb cb g ∧ la = f.length ∧ lb = g.length ∧ (0 < p ∧ p ≤ 2147483648)) := ⟨hf, hg, hf.row.hlen, hg.row.hlen, by omega, hp⟩
    have HPM : Hid (prodL p f g = rmL p (mulL f g) ∧ Pm p (rmL p (mulL f g))) := ⟨by rw [prodL, if_neg hn], mulM_pm hpr hfp hgp (by rw [← HF.out.2.2.1]; exact hla) (by rw [← HF.out.2.2.2.1]; exact hlb)⟩
    obtain ⟨N, hN⟩ : ∃ N : Nat, N + 1 = la + lb := ⟨la + lb - 1, by omega⟩
    have hNI : (la : Int) + (lb : Int) - 1 = (N : Int) := by omega
    have HN : Hid (N = f.length + g.length - 1 ∧ N + 1 = la + lb) := ⟨by have := HF.out.2.2; omega, hN⟩
    have hN4 : N ≤ 4194304 := by omega
    have q1 : ((la : Int) == 0) = false := by simp; omega
    have q2 : ((lb : Int) == 0) = false := by simp; omega
    have hz : (p == 0) = false := by simp; omega
    have hz1 : ¬ p = 0 := by omega
    have hp0 : 0 < p := by omega
    obtain ⟨i0, hi, hz0, hz1', hz2⟩ := info_parts info64
    have b1 : Hid (i0.bytes * N ≤ 281474976710656) := by show _ ≤ _; rw [hz2]; omega
    have b2 : Hid (N ≤ maxLen) := by show _ ≤ _; unfold maxLen; omega
    clear hf hg hpr hfp hgp hp2 hn h0 hN
    go_enter Tryd.func13, Tryd.ntmps13
    go_wp2_with (at_make; refine wpList_make_full _ rfl (.tmp 23) (.tmp 23) 24 rfl w.heap.size 25 i0 (.int .u64 0) 1 Tryd.underlying24 hi hz0 hz1' .i64 .i64 _ _ N rfl rfl rfl rfl b1.out b2.out (Nat.le_refl _) ?_; intro w1 hown1 hgrow1)
    have HM : Hid (Blk w1 w.heap.size .u64 25 (List.replicate N 0) ∧ Below w.heap.size w w1) := ⟨made_blk hown1, grown_below hgrow1⟩
    clear hown1 hgrow1 hNI
    obtain ⟨G, hG⟩ : ∃ G, G = w.heap.size := ⟨_, rfl⟩
    rw [← hG] at HM ⊢
    have HG : Hid (G = w.heap.size) := hG
    clear hG
    go_loopw [8] (fun ii wr => ∃ (i : Nat) (L : List Int), i ≤ la ∧ ii = .int .i64 (i : Int) ∧ Hid (Blk wr G .u64 25 (rmL p L) ∧ PMulSt f g i 0 L ∧ Below w.heap.size w wr)) (fun ii _ => la - (intOf ii).toNat)
    case atStart => exact ⟨0, List.replicate N 0, Nat.zero_le _, rfl, by have := HM.out.1; simpa [rmL] using this, by rw [HN.out.1]; exact PMulSt.start f g, by have := HM.out.2; rwa [HG.out] at this⟩
    case round =>
      obtain ⟨i, L, hi', rfl, HS⟩ := hrel
      clear HM
      by_cases hlt : i < la
      · have y1 : (i : Int) < (la : Int) := by omega
        have y2 : (0 : Int) ≤ (i : Int) := by omega
        go_wp2
        go_loopw [9] (fun kk w3 => ∃ (k : Nat) (M : List Int), k ≤ lb ∧ kk = .int .i64 (k : Int) ∧ Hid (Blk w3 G .u64 25 (rmL p M) ∧ PMulSt f g i k M ∧ Below w.heap.size w w3)) (fun kk _ => lb - (intOf kk).toNat)
        case atStart => exact ⟨0, L, Nat.zero_le _, rfl, HS.out⟩
        case round =>
          obtain ⟨k, M, hk, rfl, HT⟩ := hrel
          by_cases hkl : k < lb
          · have hMl : M.length = N := by rw [HT.out.2.1.1]; exact HN.out.1.symm
            have hik : i + k < (rmL p M).length := by rw [rmL_len, hMl]; have := HN.out.2; omega
            obtain ⟨b', o1, rfl, _, hx, hx0, hx1⟩ := (HF.out.1.later HT.out.2.2).cell hp0 hlt
            obtain ⟨b'', o2, rfl, _, hzc, hy0, hy1⟩ := (HF.out.2.1.later HT.out.2.2).cell hp0 hkl
            have hl0 := HT.out.1.cell hik
            have hfz := HT.out.1.frozen
            rw [rmL_dig] at hl0
            obtain ⟨x, hxd⟩ : ∃ x, dig f i = x := ⟨_, rfl⟩
            obtain ⟨z, hzd⟩ : ∃ z, dig g k = z := ⟨_, rfl⟩
            obtain ⟨y, hyd⟩ : ∃ y, dig M (i + k) % p = y := ⟨_, rfl⟩
            rw [hxd] at hx hx0 hx1
            rw [hzd] at hzc hy0 hy1
            rw [hyd] at hl0
            have hyb : 0 ≤ y ∧ y < p := by rw [← hyd]; exact mod_in hp0 _
            obtain ⟨hyb0, hyb1⟩ := hyb
            obtain ⟨s, hs⟩ : ∃ s, x * z = s := ⟨_, rfl⟩
            have hsb : 0 ≤ s ∧ s ≤ 4611686018427387904 := by rw [← hs]; exact mul_in hp ⟨hx0, hx1⟩ ⟨hy0, hy1⟩
            obtain ⟨hs0, hs1⟩ := hsb
            obtain ⟨t, ht⟩ : ∃ t, s % p = t := ⟨_, rfl⟩
            have htb : 0 ≤ t ∧ t < p := by rw [← ht]; exact mod_in hp0 _
            obtain ⟨ht0, ht1⟩ := htb
            have htm : s.tmod p = t := by rw [Int.tmod_eq_emod_of_nonneg hs0]; exact ht
            obtain ⟨v, hv⟩ : ∃ v, (y + t) % p = v := ⟨_, rfl⟩
            have hvm : (y + t).tmod p = v := by rw [Int.tmod_eq_emod_of_nonneg (by omega)]; exact hv
            have HV : Hid ((rmL p (M.set (i + k) (dig M (i + k) + dig f i * dig g k))) = (rmL p M).set (i + k) v) := by
              show _ = _
              rw [rmL_set, hxd, hzd, hs, ← hv, ← hyd, ← ht, add_mod_mul]
            have HST : Hid (PMulSt f g i (k + 1) (M.set (i + k) (dig M (i + k) + dig f i * dig g k))) := HT.out.2.1.step (by rw [← HF.out.2.2.1]; exact hlt) (by rw [← HF.out.2.2.2.1]; exact hkl)
            have z3 : (0 : Int) ≤ (k : Int) := by omega
            have z4 : (k : Int) < (lb : Int) := by omega
            have z5 : IntKind.i64.wrap ((i : Int) + (k : Int)) = (i : Int) + (k : Int) := by rw [IntKind.wrap_i64]; omega
            have z6 : ((i : Int) + (k : Int)).toNat = i + k := by omega
            have z7 : (0 : Int) ≤ (i : Int) + (k : Int) := by omega
            have z8 : (i : Int) + (k : Int) < (N : Int) := by have := HN.out.2; omega
            clear hMl hxd hzd hyd ht hv hik
            go_wp2
            go_region
            go_wp2
            go_roundw
            case rel => exact ⟨k + 1, _, by omega, by go_num, by rw [HV.out]; exact (HT.out.1.set (i + k) v).drew, HST.out, (HT.out.2.2.setCell (p := ⟨G, i + k, none⟩) (by rw [HG.out]; exact Nat.le_refl _) _).drew⟩
            case measure => simp [intOf]; omega
          · obtain rfl : k = lb := by omega
            have HO : Hid (PMulSt f g (i + 1) 0 M) := PMulSt.row (by have := HT.out.2.1; rw [← HF.out.2.2.2.1]; exact this) (by rw [← HF.out.2.2.1]; exact hlt)
            go_wp2
            go_roundw
            case rel => exact ⟨i + 1, M, by omega, by go_num, HT.out.1, HO.out, HT.out.2.2⟩
            case measure => simp [intOf]; omega
      · obtain rfl : i = la := by omega
        have HD : Hid (L = mulL f g ∧ N = (rmL p (mulL f g)).length) := by
          have e1 : L = mulL f g := PMulSt.done (by have := HS.out.2.1; rw [← HF.out.2.2.1]; exact this) (by rw [← HF.out.2.2.2.1]; exact hlb)
          exact ⟨e1, by rw [rmL_len, mulL_len _ _ (by rw [← HF.out.2.2.2.1]; exact hlb)]; exact HN.out.1⟩
        have HR : Hid (RowAt wr .u64 (some ⟨G, 0, none⟩) N N (rmL p (mulL f g))) := by
          have := HS.out.1; rw [HD.out.1] at this
          exact (Own.whole (B := 0) this (Nat.zero_le _) HD.out.2).row
        have HT := rtrim_any (some ⟨G, 0, none⟩) N N (rmL p (mulL f g)) wr HR.out (by omega)
        have y1 : ¬ (i : Int) < (i : Int) := by omega
        go_wp2_with (go_at_call 40; refine HT.mono ?_; rintro e w4 ⟨⟨n, hn, rfl, hcan, hz⟩, hw4⟩; replace hw4 := hw4.symm; subst hw4; have HZ : Hid (n ≤ N ∧ Can ((rmL p (mulL f g)).take n) ∧ ∀ t, n ≤ t → dig (rmL p (mulL f g)) t = 0) := ⟨hn, hcan, hz⟩; clear hn hcan hz)
        go_ret
        have e2 : (rmL p (mulL f g)).take n = rmL p (mulL f g) := TrimOf.can ⟨n, by rw [← HD.out.2]; exact HZ.out.1, rfl, HZ.out.2⟩ HPM.out.2.can
        exact ⟨_, _, _, (rmL p (mulL f g)).take n, rfl, ⟨HR.out.take HZ.out.1, HPM.out.2.wd.take n, by have := HZ.out.1; omega⟩, by rw [HPM.out.1]; exact e2, HS.out.2.2⟩
end Go.Proofs.YtnniipekcbjloaaDoor
/-
  PF: in plain: division by steps from the top; walks: the page's DivMod modulo p.
-/
namespace Go.Proofs.YtnniipekcbjloaaDoor
open Go.RowKit Go.Shelf
set_option linter.unusedVariables false
set_option linter.unusedSimpArgs false
theorem rep_app_ev (n : Nat) (g : List Int) (x : Int) : ev (List.replicate n 0 ++ g) x = x ^ n * ev g x := by
  induction n with
  | zero => simp
  | succ n ih => rw [List.replicate_succ, List.cons_append]; simp only [ev]; rw [ih, Int.pow_succ]; grind
theorem rep_app_dig (n : Nat) (g : List Int) (t : Nat) : dig (List.replicate n 0 ++ g) t = if t < n then 0 else dig g (t - n) := by
  simp only [dig, List.getD_eq_getElem?_getD]
  by_cases h : t < n
  · rw [List.getElem?_append_left (by simpa using h), if_pos h]
    simp [h]
  · rw [List.getElem?_append_right (by simpa using Nat.le_of_not_lt h), if_neg h]
    simp
/-- division from the top: the quotient's coefficients from n on stand in Q, what is left in R -/
structure DvS (p : Int) (f g Q R : List Int) (n : Nat) : Prop where
  lq : Q.length = f.length + 1 - g.length
  lr : R.length = f.length
  wq : Wd p Q
  wr : Wd p R
  low : ∀ t, t < n → dig Q t = 0
  high : ∀ t, n + g.length ≤ t + 1 → dig R t = 0
  eq : EqM p (fun x => ev f x) (fun x => ev Q x * ev g x + ev R x)
theorem rep_wd {p : Int} (hp : 0 < p) (n : Nat) : Wd p (List.replicate n 0) := fun z hz => by
  obtain rfl := List.eq_of_mem_replicate hz
  omega
theorem DvS.start {p : Int} (hp : 0 < p) {f g : List Int} (hf : Wd p f) (hg : 0 < g.length) (hl : g.length ≤ f.length) : DvS p f g (List.replicate (f.length + 1 - g.length) 0) f (f.length + 1 - g.length) :=
  ⟨by simp, rfl, rep_wd hp _, hf, fun t _ => rep_dig _ _, fun t ht => dig_past (by omega), EqM.of_eq fun x => by rw [rep_ev]; simp⟩
/-- one step -/
def stepD (p x : Int) (g R : List Int) (n k t : Nat) : Int := if n ≤ t ∧ t < n + k then (dig R t + (p - x) * dig g (t - n)) % p else dig R t
theorem DvS.step {p : Int} {f g Q R R' : List Int} {n : Nat} {c x : Int} (h : DvS p f g Q R (n + 1)) (hp : 0 < p) (hn : n < Q.length) (hg : 0 < g.length) (hc : dig g (g.length - 1) * c % p = 1 % p) (hx : x = dig R (n + g.length - 1) * c % p)
    (hl : R'.length = R.length) (hd : ∀ t, dig R' t = stepD p x g R n g.length t) : DvS p f g (Q.set n x) R' n := by
  have hxb : 0 ≤ x ∧ x < p := by rw [hx]; exact mod_in hp _
  refine ⟨by rw [List.length_set]; exact h.lq, by rw [hl]; exact h.lr, fun z hz => ?_, fun z hz => ?_, fun t ht => ?_, fun t ht => ?_, ?_⟩
  · rcases List.mem_or_eq_of_mem_set hz with e | e
    · exact h.wq z e
    · rw [e]; exact hxb
  · obtain ⟨i, hi, rfl⟩ := List.getElem_of_mem hz
    have e : R'[i] = dig R' i := by simp [dig, hi]
    rw [e, hd i, stepD]
    split
    · exact mod_in hp _
    · exact h.wr.dig hp i
  · rw [dig_set _ hn, if_neg (by omega)]; exact h.low t (by omega)
  · rw [hd t, stepD]
    by_cases e : t = n + g.length - 1
    · rw [if_pos (by omega), show t - n = g.length - 1 by omega]
      rw [← e] at hx
      generalize dig g (g.length - 1) = b at hc ⊢
      generalize dig R t = y at hx ⊢
      obtain ⟨u, hu⟩ : ∃ u, b * c = 1 + p * u := by
        have h1 := Int.mul_ediv_add_emod (b * c) p
        have h2 := Int.mul_ediv_add_emod 1 p
        rw [hc] at h1
        refine ⟨b * c / p - 1 / p, ?_⟩
        rw [Int.mul_sub]; omega
      obtain ⟨v, hv⟩ : ∃ v, x = y * c + p * v := ⟨_, by rw [hx]; exact emod_eq _ _⟩
      have e3 : y + (p - x) * b = p * (b - v * b - y * u) := by
        rw [hv]
        have : y * (b * c) = y * (1 + p * u) := by rw [hu]
        grind
      rw [e3]; exact Int.mul_emod_right _ _
    · rw [if_neg (by omega)]; exact h.high t (by omega)
  · have h1 : EqM p (fun X => ev R' X) (fun X => ev (addTo R ((List.replicate n 0 ++ g).map ((p - x) * ·))) X) := EqM.of_digs fun t => by
      rw [hd t, addTo_dig, map_dig, rep_app_dig, stepD]
      by_cases e1 : t < n
      · rw [if_neg (by omega), if_pos e1]; exact ⟨0, by simp⟩
      · rw [if_neg e1]
        by_cases e2 : t < n + g.length
        · rw [if_pos (by omega)]; exact ⟨_, emod_eq _ _⟩
        · rw [if_neg (by omega), dig_past (s := g) (by omega)]; exact ⟨0, by simp⟩
    obtain ⟨E, hE, h1⟩ := h1
    obtain ⟨F, hF, h2⟩ := h.eq
    refine ⟨_, hF.add (((IsP.id.pow n).mul (IsP.ev g)).add hE).neg, fun X => ?_⟩
    have e1 : ev (Q.set n x) X = ev Q X + x * X ^ n := by
      have := ev_set Q n x X hn
      rw [h.low n (by omega), Int.zero_add] at this
      exact this
    have e2 : ev R' X = ev R X + (p - x) * (X ^ n * ev g X) + p * E X := by
      have := h1 X
      simp only at this
      rw [this, addTo_ev, map_ev, rep_app_ev]
    have e3 : ev f X = ev Q X * ev g X + ev R X + p * F X := h2 X
    show ev f X = ev (Q.set n x) X * ev g X + ev R' X + p * (F X + -(X ^ n * ev g X + E X))
    rw [e1, e2, e3]; grind
theorem DvS.done {p : Int} {f g Q R q r : List Int} (h : DvS p f g Q R 0) (hp : 0 < p) (hg : 0 < g.length) (hq : TrimOf q Q) (hr : TrimOf r R) : Pm p q ∧ Pm p r ∧ r.length < g.length ∧ EqM p (fun x => ev f x) (fun x => ev q x * ev g x + ev r x) := by
  have hrc : Can r := by obtain ⟨_, _, _, hc, _⟩ := hr; exact hc
  have hqc : Can q := by obtain ⟨_, _, _, hc, _⟩ := hq; exact hc
  refine ⟨⟨hq.wd h.wq, hqc⟩, ⟨hr.wd h.wr, hrc⟩, ?_, ?_⟩
  · by_cases hl : r.length < g.length
    · exact hl
    · exfalso
      refine can_dig hrc (by omega) ?_
      rw [hr.dig]; exact h.high _ (by omega)
  · refine h.eq.trans (EqM.of_eq fun x => ?_)
    show ev Q x * ev g x + ev R x = _
    rw [ev_of_digs (fun k => (hq.dig k).symm) x, ev_of_digs (fun k => (hr.dig k).symm) x]
/-- a row of the call's own with room behind it -/
def RowC (w : World) (g cap : Nat) (L : List Int) : Prop := ∃ cur, w.heap[g]? = some (.cells cur 25 (0, 0)) ∧ cap ≤ cur.size ∧ L.length ≤ cap ∧ ∀ j, j < L.length → cur[j]? = some (.int .u64 (dig L j))
theorem RowC.of {w : World} {base g n cap : Nat} {L : List Int} (hl : L.length = n) (h : w.ownsRow base 25 1 (.slice (some ⟨g, 0, none⟩) n cap) n (L.map (Value.int .u64))) : RowC w g cap L ∧ base ≤ g := by
  obtain ⟨_, h2⟩ := h
  rcases h2 with ⟨h2, _⟩ | ⟨g', cap', cur, hv, hg, hh, hc1, _, hs, ht⟩
  · cases h2
  · simp only [Value.slice.injEq, Option.some.injEq, Addr.mk.injEq] at hv
    obtain ⟨⟨rfl, _⟩, _, rfl⟩ := hv
    refine ⟨⟨cur, hh, by omega, by omega, fun j hj => ?_⟩, hg⟩
    have e1 : cur.toList[j]? = some (.int .u64 (dig L j)) := by
      have : (cur.toList.take (n * 1))[j]? = (L.map (Value.int .u64))[j]? := by rw [ht]
      rw [List.getElem?_take, if_pos (by omega)] at this
      rw [this]; simp [dig, hj]
    simpa using e1
theorem RowC.lt {w : World} {g cap : Nat} {L : List Int} (h : RowC w g cap L) : g < w.heap.size := by
  obtain ⟨cur, h, _⟩ := h; exact heap_lt h
theorem RowC.cell {w : World} {g cap : Nat} {L : List Int} (h : RowC w g cap L) {j : Nat} (hj : j < L.length) : w.cell? ⟨g, j, none⟩ = some (.int .u64 (dig L j)) := by
  obtain ⟨cur, h1, _, _, h2⟩ := h
  simp [World.cell?, h1, h2 j hj]
theorem RowC.frozen {w : World} {g cap : Nat} {L : List Int} (h : RowC w g cap L) (j : Nat) : w.frozen? ⟨g, j, none⟩ = false := by
  obtain ⟨cur, h1, _⟩ := h
  simp [World.frozen?, h1]
theorem RowC.all {w w' : World} {g cap : Nat} {L : List Int} (h : RowC w g cap L) (hb : Below w.heap.size w w') : RowC w' g cap L := by
  obtain ⟨cur, h1, h2⟩ := h
  exact ⟨cur, by rw [hb.block g (heap_lt h1)]; exact h1, h2⟩
theorem RowC.drew {w : World} {g cap : Nat} {L : List Int} (h : RowC w g cap L) : RowC w.drew g cap L := h
theorem RowC.set {w : World} {g cap : Nat} {L : List Int} (h : RowC w g cap L) (j : Nat) (z : Int) : RowC (w.setCell ⟨g, j, none⟩ (.int .u64 z)) g cap (L.set j z) := by
  obtain ⟨cur, h1, h2, h3, h4⟩ := h
  refine ⟨cur.setIfInBounds j (.int .u64 z), ?_, by simpa using h2, by simpa using h3, fun i hi => ?_⟩
  · simp only [World.setCell, Array.getElem?_modify, if_true]
    rw [h1]
    simp
  · have hi' : i < L.length := by simpa using hi
    rw [Array.getElem?_setIfInBounds]
    by_cases e : j = i
    · subst e
      have hjs : j < cur.size := by omega
      simp [hjs, dig, hi']
    · rw [if_neg e, h4 i hi']
      simp [dig, e]
theorem RowC.other {w : World} {g cap : Nat} {L : List Int} (h : RowC w g cap L) {a : Addr} (ha : g ≠ a.block) (v : Value) : RowC (w.setCell a v) g cap L := by
  obtain ⟨cur, h1, h2⟩ := h
  exact ⟨cur, by rw [Below.heap_setCell _ _ _ _ ha]; exact h1, h2⟩
theorem RowC.row {w : World} {g cap : Nat} {L : List Int} (h : RowC w g cap L) : RowAt w .u64 (some ⟨g, 0, none⟩) L.length cap L :=
  ⟨rfl, by obtain ⟨_, _, _, h3, _⟩ := h; exact h3, fun e => (by cases e), Or.inr ⟨g, 0, rfl, h.lt, fun t ht => by rw [Nat.zero_add]; exact h.cell ht⟩⟩
end Go.Proofs.YtnniipekcbjloaaDoor
/-
  PG: walks: the page's Gcd and Pow modulo p; in plain: a quotient is told by its product.
-/
namespace Go.Proofs.YtnniipekcbjloaaDoor
open Go.RowKit Go.Shelf
set_option linter.unusedVariables false
set_option linter.unusedSimpArgs false
/-- what makes nothing with g is nothing -/
theorem mul_zero_of {p : Int} {g : List Int} (hp : IsPr p) (hg : Pm p g) (hl : 0 < g.length) : ∀ (n : Nat) (h : List Int), h.length = n → EqM p (fun x => ev h x * ev g x) (fun _ => 0) → EqM p (fun x => ev h x) (fun _ => 0)
  | 0, h, hn, _ => by
    obtain rfl := List.eq_nil_of_length_eq_zero hn
    exact EqM.of_eq fun x => rfl
  | n + 1, h, hn, e => by
    obtain ⟨h0, z, rfl⟩ := snoc_of (zs := h) (by intro e; subst e; simp at hn)
    have hn0 : h0.length = n := by simpa using hn
    have hlen : (h0 ++ [z]).length = n + 1 := hn
    have e0 : EqM p (fun x => ev (mulL (h0 ++ [z]) g) x) (fun x => ev [] x) := (EqM.of_eq fun x => mulL_ev _ _ x).trans (e.trans (EqM.of_eq fun x => rfl))
    obtain ⟨c, hc⟩ := e0.digs ((h0 ++ [z]).length + g.length - 2)
    rw [mulL_lead _ _ (by omega) hl] at hc
    have hz : dig (h0 ++ [z]) ((h0 ++ [z]).length - 1) = z := by simp [dig]
    rw [hz] at hc
    have hld := hg.lead (by have := hp.two; omega) hl
    have hdv : p ∣ z * dig g (g.length - 1) := ⟨c, by rw [hc]; simp [dig]⟩
    rcases hp.dvd_mul hdv with ⟨y, hy⟩ | h3
    · subst hy
      have e1 : EqM p (fun x => ev h0 x) (fun x => ev (h0 ++ [p * y]) x) := by
        refine ⟨_, ((IsP.const (-y)).mul (IsP.id.pow n)), fun x => ?_⟩
        show ev h0 x = ev (h0 ++ [p * y]) x + p * (-y * x ^ n)
        rw [ev_snoc, hn0]; grind
      refine e1.symm.trans ?_
      have e2 : EqM p (fun x => ev h0 x * ev g x) (fun _ => 0) := (e1.mul (EqM.of_eq fun x => rfl) (IsP.ev h0) (IsP.ev g)).trans e
      exact mul_zero_of hp hg hl n h0 hn0 e2
    · exact absurd h3 (hp.small hld.1 hld.2)
theorem quo_uniq {p : Int} {f g q q' r : List Int} (hp : IsPr p) (hg : Pm p g) (hl : 0 < g.length) (hq : Pm p q) (hq' : Pm p q') (h : EqM p (fun x => ev f x) (fun x => ev q x * ev g x + ev r x)) (h' : EqM p (fun x => ev f x) (fun x => ev q' x * ev g x + ev r x)) : q = q' := by
  have hp2 := hp.two
  have e : EqM p (fun x => ev (addTo q (q'.map (-1 * ·))) x * ev g x) (fun _ => 0) := by
    obtain ⟨E, hE, h⟩ := h
    obtain ⟨F, hF, h'⟩ := h'
    refine ⟨_, hF.sub hE, fun x => ?_⟩
    show ev (addTo q (q'.map (-1 * ·))) x * ev g x = 0 + p * (F x - E x)
    have e1 : ev f x = ev q x * ev g x + ev r x + p * E x := h x
    have e2 : ev f x = ev q' x * ev g x + ev r x + p * F x := h' x
    rw [addTo_ev, map_ev]
    have e3 : ev q x * ev g x - ev q' x * ev g x = p * F x - p * E x := by omega
    grind
  have e2 := mul_zero_of hp hg hl _ _ rfl e
  refine Pm.inj (by omega) hq hq' ?_
  obtain ⟨E, hE, h3⟩ := e2
  refine ⟨E, hE, fun x => ?_⟩
  have := h3 x
  simp only [addTo_ev, map_ev] at this
  show ev q x = ev q' x + p * E x
  omega
theorem Rm.md {p : Int} {f g r : List Int} (h : Rm p f g r) : Md p g (fun x => ev r x) (fun x => ev f x) := by
  obtain ⟨_, _, q, h⟩ := h
  exact Md.ofDiv h
/-- a row with what it is modulo g -/
def LeftR (p : Int) (g : List Int) (w : World) (ro : Option Addr) (rl rc : Nat) (r : List Int) (A : Int → Int) : Prop := FRow p w ro rl rc r ∧ Pm p r ∧ r.length < g.length ∧ Md p g (fun x => ev r x) A
theorem LeftR.later {p : Int} {g : List Int} {w w' : World} {ro : Option Addr} {rl rc : Nat} {r : List Int} {A : Int → Int} (h : LeftR p g w ro rl rc r A) (hb : Below w.heap.size w w') : LeftR p g w' ro rl rc r A := ⟨h.1.later hb, h.2⟩
end Go.Proofs.YtnniipekcbjloaaDoor
/-
  Walks: timesPlain.
-/
namespace Go.Proofs.YtnniipekcbjloaaDoor
open Go.RowKit
set_option linter.unusedVariables false
set_option linter.unusedSimpArgs false
/-- x times the first k digits of y lies in Lk from off on; above it noughts -/
structure ProdSt (q : Int) (L x y : List Int) (off lx ly k : Nat) (Lk : List Int) : Prop where
  len : Lk.length = L.length
  out : ∀ j, j < off ∨ off + (lx + ly) ≤ j → dig Lk j = dig L j
  wd : Wd q Lk
  zero : ∀ j, off + (lx + k) ≤ j → j < off + (lx + ly) → dig Lk j = 0
  eq : V q Lk off (lx + k) = val q x * val q (y.take k)
theorem dig_splice {L cs : List Int} {off : Nat} (h : off + cs.length ≤ L.length) (j : Nat) : dig (splice L off cs) j = if j < off then dig L j else if j < off + cs.length then dig cs (j - off) else dig L j := by
  unfold splice dig
  simp only [List.getD_eq_getElem?_getD, List.getElem?_append, List.length_take, List.getElem?_take, List.getElem?_drop]
  rw [Nat.min_eq_left (by omega)]
  by_cases h1 : j < off
  · simp [h1]
  · by_cases h2 : j < off + cs.length
    · rw [if_neg h1, if_neg h1, if_pos h2, if_pos (by omega)]
    · rw [if_neg h1, if_neg h1, if_neg h2, if_neg (by omega)]
      congr 2; omega
theorem dig_zeros (n j : Nat) : dig (List.replicate n (0 : Int)) j = 0 := by
  unfold dig; simp only [List.getD_eq_getElem?_getD, List.getElem?_replicate]; split <;> rfl
theorem wd_splice {q : Int} {L cs : List Int} {off : Nat} (h : Wd q L) (hc : Wd q cs) : Wd q (splice L off cs) := by
  unfold splice; exact (h.take _).append (hc.append (h.drop _))
theorem wd_zeros {q : Int} (hq : 0 < q) (n : Nat) : Wd q (List.replicate n 0) := fun z hz => by
  have := List.eq_of_mem_replicate hz; subst this; exact ⟨Int.le_refl _, hq⟩
theorem V_zeros {q : Int} {L : List Int} {off k : Nat} (h : ∀ j, j < k → dig L (off + j) = 0) : V q L off k = 0 := by
  induction k with
  | zero => exact V_zero q L off
  | succ k ih => rw [V_succ, ih (fun j hj => h j (by omega)), h k (by omega)]; simp
theorem ProdSt.start {q : Int} (hq : 0 < q) {L x y : List Int} {off lx ly : Nat} (hW : Wd q L) (hl : off + (lx + ly) ≤ L.length) : ProdSt q L x y off lx ly 0 (splice L off (List.replicate (lx + ly) 0)) := by
  have hd := fun j => dig_splice (L := L) (cs := List.replicate (lx + ly) (0 : Int)) (off := off) (by simpa using hl) j
  simp only [List.length_replicate] at hd
  refine ⟨length_splice _ _ _ (by simpa using hl), fun j hj => ?_, wd_splice hW (wd_zeros hq _), fun j h1 h2 => ?_, ?_⟩
  · rw [hd]; rcases hj with h | h
    · rw [if_pos h]
    · rw [if_neg (by omega), if_neg (by omega)]
  · rw [hd, if_neg (by omega), if_pos h2, dig_zeros]
  · rw [V_zeros (fun j hj => by rw [hd, if_neg (by omega), if_pos (by omega), dig_zeros])]
    simp [val]
/-- a nought of y -/
theorem ProdSt.skip {q : Int} {L x y : List Int} {off lx ly k : Nat} {Lk : List Int} (h : ProdSt q L x y off lx ly k Lk) (hk : k < ly) (hy : dig y k = 0) : ProdSt q L x y off lx ly (k + 1) Lk := by
  refine ⟨h.len, h.out, h.wd, fun j h1 h2 => h.zero j (by omega) h2, ?_⟩
  rw [← Nat.add_assoc, V_succ, h.zero (off + (lx + k)) (by omega) (by omega), val_take_dig, hy, h.eq]; simp
theorem ProdSt.step {q : Int} {L x y : List Int} {off lx ly k : Nat} {Lk L' : List Int} {c : Int} (h : ProdSt q L x y off lx ly k Lk) (hl : off + (lx + ly) ≤ L.length) (hk : k < ly) (hx : x.length ≤ lx)
    (hm : MulSt q Lk x (dig y k) (off + k) lx c L') : ProdSt q L x y off lx ly (k + 1) (L'.set (off + (k + lx)) c) := by
  have hlen : off + (k + lx) < L'.length := by rw [hm.len, h.len]; omega
  refine ⟨by simp [hm.len, h.len], fun j hj => ?_, hm.wd.set _ ⟨hm.c0, hm.c1⟩, fun j h1 h2 => ?_, ?_⟩
  · rw [dig_set _ hlen, if_neg (by omega), hm.out j (by omega)]; exact h.out j hj
  · rw [dig_set _ hlen, if_neg (by omega), hm.out j (by omega)]; exact h.zero j (by omega) h2
  · have e0 : lx + (k + 1) = k + (lx + 1) := by omega
    rw [e0, V_split]
    have e1 : V q (L'.set (off + (k + lx)) c) off k = V q Lk off k := V_congr fun j hj => by rw [dig_set _ hlen, if_neg (by omega), hm.out _ (by omega)]
    have e2 : V q (L'.set (off + (k + lx)) c) (off + k) lx = V q L' (off + k) lx := V_congr fun j hj => by rw [dig_set _ hlen, if_neg (by omega)]
    rw [V_succ, e1, e2, dig_set _ hlen, if_pos (by omega)]
    have e3 := hm.eq
    rw [List.take_of_length_le hx] at e3
    have e4 := h.eq
    have e5 : lx + k = k + lx := by omega
    rw [e5, V_split] at e4
    rw [val_take_dig]
    have e6 : q ^ lx * c = c * q ^ lx := Int.mul_comm _ _
    rw [e6, e3]
    grind
end Go.Proofs.YtnniipekcbjloaaDoor
/-
  EA, EB, EC, ED.
-/
/- Walks: takeOut. -/
namespace Go.Proofs.YtnniipekcbjloaaDoor
open Go.RowKit
set_option linter.unusedVariables false
set_option linter.unusedSimpArgs false
end Go.Proofs.YtnniipekcbjloaaDoor
/- Walks: takeOut. -/
namespace Go.Proofs.YtnniipekcbjloaaDoor
open Go.RowKit
set_option linter.unusedVariables false
set_option linter.unusedSimpArgs false
end Go.Proofs.YtnniipekcbjloaaDoor
/- Plain mathematics: Knuth's division, limb by limb. -/
namespace Go.Proofs.YtnniipekcbjloaaDoor
open Go.RowKit
set_option linter.unusedVariables false
set_option linter.unusedSimpArgs false
/-- the quotient's digits from place k on lie in Lq; what is left of X lies in Lu, below k + n -/
structure DivSt (q M X : Int) (n m k : Nat) (nu : Nat) (Lu Lq : List Int) : Prop where
  lu : Lu.length = nu
  lq : Lq.length = m
  wu : Wd q Lu
  wq : Wd q Lq
  eq : V q Lq k (m - k) * (q ^ k * M) + V q Lu 0 (k + n) = X
  lt : V q Lu 0 (k + n) < M * q ^ k
theorem DivSt.pre {q M X : Int} {n m k nu : Nat} {Lu Lq : List Int} (hq : 1 < q) (h : DivSt q M X n m (k + 1) nu Lu Lq) : V q Lu k (n + 1) < M * q := by
  have e := h.lt
  rw [show k + 1 + n = k + (n + 1) by omega, V_split, Int.pow_succ, Nat.zero_add] at e
  have h0 := V_nonneg (q := q) (by omega) h.wu 0 k
  have hp : 0 < q ^ k := Int.pow_pos (by omega)
  have e2 : q ^ k * V q Lu k (n + 1) < q ^ k * (M * q) := by
    have : M * (q ^ k * q) = q ^ k * (M * q) := by grind
    omega
  exact Int.lt_of_mul_lt_mul_left e2 (by omega)
theorem DivSt.step {q M X : Int} {n m k nu : Nat} {Lu Lq L' : List Int} {d : Int} (hq : 1 < q) (h : DivSt q M X n m (k + 1) nu Lu Lq) (hk : k < m) (hM : M < q ^ n) (hl : L'.length = Lu.length) (hw : Wd q L')
    (hout : ∀ j, j < k ∨ k + (n + 1) ≤ j → dig L' j = dig Lu j) (hd : 0 ≤ d ∧ d < q) (he : V q L' k (n + 1) + d * M = V q Lu k (n + 1)) (hlt : V q L' k (n + 1) < M) : DivSt q M X n m k nu L' (Lq.set k d) := by
  have hlk : k < Lq.length := by rw [h.lq]; exact hk
  have e0 : V q L' 0 k = V q Lu 0 k := V_congr fun j hj => by rw [hout _ (by omega)]
  have hp : 0 < q ^ k := Int.pow_pos (by omega)
  have hz : V q L' k (n + 1) = V q L' k n := by
    have a1 := V_nonneg (q := q) (by omega) hw k n
    have a2 := hw.dig (by omega) (k + n)
    rw [V_succ] at hlt ⊢
    by_cases h0 : dig L' (k + n) = 0
    · rw [h0]; simp
    · have : q ^ n * 1 ≤ q ^ n * dig L' (k + n) := Int.mul_le_mul_of_nonneg_left (by omega) (Int.le_of_lt (Int.pow_pos (by omega)))
      omega
  refine ⟨by rw [hl, h.lu], by simp [h.lq], hw, h.wq.set _ hd, ?_, ?_⟩
  · rw [show m - k = (m - (k + 1)) + 1 by omega, V_cons, dig_set _ hlk, if_pos rfl]
    have e1 : V q (Lq.set k d) (k + 1) (m - (k + 1)) = V q Lq (k + 1) (m - (k + 1)) := V_congr fun j hj => by rw [dig_set _ hlk, if_neg (by omega)]
    have e2 := h.eq
    rw [show k + 1 + n = k + (n + 1) by omega, V_split, Nat.zero_add, Int.pow_succ, ← he] at e2
    rw [e1, V_split, Nat.zero_add, e0, ← hz]
    grind
  · rw [V_split, Nat.zero_add, ← hz]
    have b1 := V_lt hq hw 0 k
    have : q ^ k * (V q L' k (n + 1) + 1) ≤ q ^ k * M := Int.mul_le_mul_of_nonneg_left (by omega) (by omega)
    rw [Int.mul_add, Int.mul_one] at this
    rw [Int.mul_comm M]; omega
theorem nat_div_of {A B : Nat} {Q R : Int} (h : Q * B + R = A) (hR : 0 ≤ R) (hlt : R < B) : Q = ((A / B : Nat) : Int) ∧ R = ((A % B : Nat) : Int) := by
  have := quot_unique (D := (B : Int)) (N := (A : Int)) (q := Q) (by omega) (by omega) (by rw [Int.add_mul]; omega)
  rw [Int.natCast_ediv, Int.natCast_emod]
  exact ⟨this.1, by rw [← this.2]; omega⟩
end Go.Proofs.YtnniipekcbjloaaDoor
/- Walks: divideLong. -/
namespace Go.Proofs.YtnniipekcbjloaaDoor
open Go.RowKit
set_option linter.unusedVariables false
set_option linter.unusedSimpArgs false
/-- two slices lie in blocks of their own -/
def Parted (ao bo : Option Addr) : Prop := ∀ p q : Addr, ao = some p → bo = some q → p.block ≠ q.block
theorem Parted.none_ {bo : Option Addr} : Parted none bo := fun p q h => by cases h
theorem Parted.symm {ao bo : Option Addr} (h : Parted ao bo) : Parted bo ao := fun p q hp hq e => h q p hq hp e.symm
/-- the elder one lay there when the younger one was made -/
theorem Parted.made {B B' : Nat} {w w' : World} {t t' : TypeId} {ao bo : Option Addr} {l c l' c' : Nat} {zs ys : List Int} (h : Own B w .u64 t ao l c zs) (k : Own B' w' .u64 t' bo l' c' ys) (hs : w.heap.size ≤ B') : Parted ao bo := by
  intro p q hp hq
  rcases h with ⟨h1, _⟩ | ⟨g, off, cur, h1, h2, h3, _⟩
  · rw [h1] at hp; cases hp
  · rcases k with ⟨k1, _⟩ | ⟨g', off', cur', k1, k2, _⟩
    · rw [k1] at hq; cases hq
    · rw [h1] at hp; rw [k1] at hq
      cases hp; cases hq
      have := heap_lt h3
      show g ≠ g'
      omega
theorem below_less {B B' : Nat} {w w' : World} (h : Below B w w') (hB : B' ≤ B) : Below B' w w' := ⟨h.os, h.tape, h.output, h.size, fun k hk => h.block k (by omega)⟩
end Go.Proofs.YtnniipekcbjloaaDoor
/-
  EE, EF, EG, EH.
-/
/- Walks: divide. -/
namespace Go.Proofs.YtnniipekcbjloaaDoor
open Go.RowKit
set_option linter.unusedVariables false
set_option linter.unusedSimpArgs false
end Go.Proofs.YtnniipekcbjloaaDoor
/- Walks: shiftDown. -/
namespace Go.Proofs.YtnniipekcbjloaaDoor
open Go.RowKit
set_option linter.unusedVariables false
set_option linter.unusedSimpArgs false
theorem RowAt.drop {w : World} {k : IntKind} {b o len cap : Nat} {zs : List Int} (h : RowAt w k (some ⟨b, o, none⟩) len cap zs) {j : Nat} (hj : j < len) : RowAt w k (some ⟨b, o + j, none⟩) (len - j) (cap - j) (zs.drop j) := by
  obtain ⟨b', o', e, hlt, hc⟩ := h.get (by omega)
  cases e
  refine ⟨by simp [h.hlen], by have := h.hcap; omega, (fun e => by cases e), Or.inr ⟨b, o + j, rfl, hlt, fun t ht => ?_⟩⟩
  have := hc (j + t) (by omega)
  rw [dig_drop, Nat.add_assoc]; exact this
end Go.Proofs.YtnniipekcbjloaaDoor
/- Walks: shiftUp. -/
namespace Go.Proofs.YtnniipekcbjloaaDoor
open Go.RowKit
set_option linter.unusedVariables false
set_option linter.unusedSimpArgs false
end Go.Proofs.YtnniipekcbjloaaDoor
/- Mathematics of powers and roots. -/
namespace Go.Proofs.YtnniipekcbjloaaDoor
set_option linter.unusedVariables false
set_option linter.unusedSimpArgs false
end Go.Proofs.YtnniipekcbjloaaDoor
/-
  Walks: power (short numbers).
-/
namespace Go.Proofs.YtnniipekcbjloaaDoor
open Go.RowKit Go.Shelf
set_option linter.unusedVariables false
set_option linter.unusedSimpArgs false
theorem mag_len_mul (a b : Nat) : (mag (a * b)).length ≤ (mag a).length + (mag b).length := by
  apply mag_len_le
  have h1 := mag_len_lt (n := a) rfl
  have h2 := mag_len_lt (n := b) rfl
  rw [Int.natCast_mul, Int.pow_add]
  by_cases hb : b = 0
  · subst hb
    rw [Int.natCast_zero, Int.mul_zero]
    exact Int.mul_pos (Int.pow_pos (by decide)) (Int.pow_pos (by decide))
  · exact Int.lt_of_lt_of_le (Int.mul_lt_mul_of_pos_right h1 (by omega)) (Int.mul_le_mul_of_nonneg_left (Int.le_of_lt h2) (Int.le_of_lt (Int.pow_pos (by decide))))
end Go.Proofs.YtnniipekcbjloaaDoor
/-
  EJ, EK, EL.
-/
/- Walks: rootStep (short numbers). -/
namespace Go.Proofs.YtnniipekcbjloaaDoor
open Go.RowKit Go.Shelf
set_option linter.unusedVariables false
set_option linter.unusedSimpArgs false
end Go.Proofs.YtnniipekcbjloaaDoor
/- Walks: rootStart, root (short numbers). -/
namespace Go.Proofs.YtnniipekcbjloaaDoor
open Go.RowKit Go.Shelf
set_option linter.unusedVariables false
set_option linter.unusedSimpArgs false
/-- how many bits a number has -/
theorem row_bits {a la : Nat} (h0 : 0 < a) (hl : la = (mag a).length) : ∃ l : Nat, rowBits la (dig (mag a) (la - 1)) = (l : Int) ∧ 1 ≤ l ∧ l ≤ 64 * la ∧ 2 ^ (l - 1) ≤ a ∧ a < 2 ^ l := by
  have hp : 0 < la := by rw [hl]; exact mag_len_pos.2 h0
  obtain ⟨k, rfl⟩ : ∃ k, la = k + 1 := ⟨la - 1, by omega⟩
  rw [Nat.add_sub_cancel]
  have hv := mag_val a
  rw [← V_all 18446744073709551616 hl, V_succ, Nat.zero_add] at hv
  have h1 := V_nonneg (q := 18446744073709551616) (by decide) (mag_wd a) 0 k
  have h2 := V_lt (q := 18446744073709551616) (by decide) (mag_wd a) 0 k
  have hz := (mag_wd a).dig (by decide) k
  have hne : mag a ≠ [] := fun e => by rw [e] at hl; simp at hl
  have htop : dig (mag a) k ≠ 0 := by
    have h1 := mag_can a
    obtain ⟨r, t, ht⟩ := snoc_of hne
    rw [ht] at h1 hl ⊢
    have : k = r.length := by simp at hl; omega
    rw [this]; simp [dig]; exact can_snoc.1 h1
  obtain ⟨z, hze⟩ : ∃ z, dig (mag a) k = z := ⟨_, rfl⟩
  obtain ⟨v, hve⟩ : ∃ v, V 18446744073709551616 (mag a) 0 k = v := ⟨_, rfl⟩
  rw [hze] at hv hz htop; rw [hve] at hv h1 h2
  rw [hze]
  obtain ⟨z, rfl⟩ := Int.eq_ofNat_of_zero_le hz.1
  obtain ⟨v, rfl⟩ := Int.eq_ofNat_of_zero_le h1
  obtain ⟨b1, b2, b3⟩ := bitLen_bounds (y := z) (by omega) (by omega)
  have b4 : Lib.bitLen z ≤ 64 := Lib.bitLen_le z 64 (by omega) (by omega)
  unfold rowBits
  rw [if_neg (by omega), Int.toNat_natCast]
  obtain ⟨B, hB⟩ : ∃ B, Lib.bitLen z = B := ⟨_, rfl⟩
  rw [hB] at b1 b2 b3 b4 ⊢
  have hq : (18446744073709551616 : Int) ^ k = ((2 ^ (64 * k) : Nat) : Int) := by rw [Int.natCast_pow, show (18446744073709551616 : Int) = 2 ^ 64 from rfl, ← Int.pow_mul]; rfl
  rw [hq] at hv h2
  have hv' : a = v + 2 ^ (64 * k) * z := by
    have : (a : Int) = ((v + 2 ^ (64 * k) * z : Nat) : Int) := by rw [← hv, Int.natCast_add, Int.natCast_mul]
    exact Int.ofNat.inj this
  have h2' : v < 2 ^ (64 * k) := by omega
  refine ⟨64 * k + B, by omega, by omega, by omega, ?_, ?_⟩
  · rw [show 64 * k + B - 1 = 64 * k + (B - 1) by omega, Nat.pow_add]
    have := Nat.mul_le_mul_left (2 ^ (64 * k)) b2
    omega
  · rw [Nat.pow_add]
    have := Nat.mul_le_mul_left (2 ^ (64 * k)) (show z + 1 ≤ 2 ^ B from b3)
    rw [Nat.mul_add, Nat.mul_one] at this
    omega
end Go.Proofs.YtnniipekcbjloaaDoor
/- Walks: root (short numbers). -/
namespace Go.Proofs.YtnniipekcbjloaaDoor
open Go.RowKit Go.Shelf
set_option linter.unusedVariables false
set_option linter.unusedSimpArgs false
end Go.Proofs.YtnniipekcbjloaaDoor
/-
  EM, EN, EO.
-/
/- Walks: Mul (one factor short), Pow, Root; the laws' add, mul, Within. -/
namespace Go.Proofs.YtnniipekcbjloaaDoor
open Go.RowKit Go.Shelf
set_option linter.unusedVariables false
set_option linter.unusedSimpArgs false
theorem sgn_mul {na nb : Bool} {a b : Int} (ha : na = sgB a) (hb : nb = sgB b) : a * b = sgn (na != nb) (a.natAbs * b.natAbs) := by
  have h1 := sgn_of ha
  have h2 := sgn_of hb
  unfold sgn at h1 h2 ⊢
  rw [Int.natCast_mul]
  cases na <;> cases nb <;> simp at h1 h2 ⊢
  · rw [h1, h2]
  · rw [h1, ← Int.mul_neg, h2]
  · rw [h2, ← Int.neg_mul, h1]
  · rw [← Int.neg_mul_neg a b, show -a = (a.natAbs : Int) by omega, show -b = (b.natAbs : Int) by omega]
end Go.Proofs.YtnniipekcbjloaaDoor
/- Walks: Pow, Root (short numbers); the laws' mul, add, Within. -/
namespace Go.Proofs.YtnniipekcbjloaaDoor
open Go.RowKit Go.Shelf
set_option linter.unusedVariables false
set_option linter.unusedSimpArgs false
end Go.Proofs.YtnniipekcbjloaaDoor
/- Walks: the laws' mul, add, Within. -/
namespace Go.Proofs.YtnniipekcbjloaaDoor
open Go.RowKit Go.Shelf
set_option linter.unusedVariables false
set_option linter.unusedSimpArgs false
end Go.Proofs.YtnniipekcbjloaaDoor
/-
  Walks: wakes.
-/
namespace Go.Proofs.YtnniipekcbjloaaDoor
open Go.RowKit
set_option linter.unusedVariables false
set_option linter.unusedSimpArgs false
theorem Own.int {B : Nat} {w : World} {neg : Bool} {ao : Option Addr} {l c : Nat} {v : Int} (h : Own B w .u64 25 ao l c (mag v.natAbs)) (hs : neg = sgB v) : IntAt w neg ao l c v := ⟨hs, h.row⟩
end Go.Proofs.YtnniipekcbjloaaDoor
/-
  WM, WN, WO.
-/
/- Walks: Small. -/
namespace Go.Proofs.YtnniipekcbjloaaDoor
open Go.RowKit
set_option linter.unusedVariables false
set_option linter.unusedSimpArgs false
end Go.Proofs.YtnniipekcbjloaaDoor
/- Walks: the page's own Small. -/
namespace Go.Proofs.YtnniipekcbjloaaDoor
open Go.RowKit
set_option linter.unusedVariables false
set_option linter.unusedSimpArgs false
end Go.Proofs.YtnniipekcbjloaaDoor
/- Walks: the law's own helpers. -/
namespace Go.Proofs.YtnniipekcbjloaaDoor
open Go.RowKit
set_option linter.unusedVariables false
set_option linter.unusedSimpArgs false
/-- two numbers and a count, handed in -/
def Five (W : World) (r : Nat) (na nb : Bool) (ao bo : Option Addr) (la ca lb cb : Nat) (n : Int) : Prop :=
  W.cell? ⟨r, 0, none⟩ = some (.bool na) ∧ W.cell? ⟨r, 1, none⟩ = some (.slice ao la ca) ∧ W.cell? ⟨r, 2, none⟩ = some (.bool nb) ∧ W.cell? ⟨r, 3, none⟩ = some (.slice bo lb cb) ∧ W.cell? ⟨r, 4, none⟩ = some (.int .i64 n)
theorem Five.later {W w2 : World} {r : Nat} {na nb : Bool} {ao bo : Option Addr} {la ca lb cb : Nat} {n : Int} (k : Five W r na nb ao bo la ca lb cb n) (h : Below W.heap.size W w2) (hr : r < W.heap.size) : Five w2 r na nb ao bo la ca lb cb n :=
  ⟨(h.cell (p := ⟨r, 0, none⟩) hr).trans k.1, (h.cell (p := ⟨r, 1, none⟩) hr).trans k.2.1, (h.cell (p := ⟨r, 2, none⟩) hr).trans k.2.2.1, (h.cell (p := ⟨r, 3, none⟩) hr).trans k.2.2.2.1, (h.cell (p := ⟨r, 4, none⟩) hr).trans k.2.2.2.2⟩
theorem may_at (neg : Bool) (ao : Option Addr) (len cap : Nat) (zs : List Int) (w : World) (hr : RowAt w .u64 ao len cap zs) (hl : len ≤ 4611686018427387904) (c : Bool) (hc : mayB neg zs = c) :
    Calls Tryd.prog 38 #[.agg #[.bool neg, .slice ao len cap]] w fun e w' => e = .returned (.bool c) ∧ Below w.heap.size w w' := by
  refine (may_any neg ao len cap zs w hr hl).mono fun e w' h => ?_
  rw [hc] at h; exact h
end Go.Proofs.YtnniipekcbjloaaDoor
/-
  A list of pairs of numbers, in memory.
-/
namespace Go.Proofs.YtnniipekcbjloaaDoor
open Go.RowKit
set_option linter.unusedVariables false
set_option linter.unusedSimpArgs false
/-- two numbers and a count lie in block b from o on: whatever they are -/
def ElemAt (w : World) (b o : Nat) : Prop :=
  ∃ (na nb : Bool) (ao bo : Option Addr) (la ca lb cb : Nat) (n : Int) (x y : List Int),
    (w.cell? ⟨b, o, none⟩ = some (.bool na) ∧ w.cell? ⟨b, o + 1, none⟩ = some (.slice ao la ca) ∧ w.cell? ⟨b, o + 2, none⟩ = some (.bool nb) ∧ w.cell? ⟨b, o + 3, none⟩ = some (.slice bo lb cb) ∧ w.cell? ⟨b, o + 4, none⟩ = some (.int .i64 n)) ∧
    RowAt w .u64 ao la ca x ∧ Wd 18446744073709551616 x ∧ RowAt w .u64 bo lb cb y ∧ Wd 18446744073709551616 y ∧ -9223372036854775808 ≤ n ∧ n ≤ 9223372036854775807
theorem ElemAt.later {w w' : World} {b o : Nat} (h : ElemAt w b o) (hb : Below w.heap.size w w') (hlt : b < w.heap.size) : ElemAt w' b o := by
  obtain ⟨na, nb, ao, bo, la, ca, lb, cb, n, x, y, ⟨h0, h1, h2, h3, h4⟩, hx, wx, hy, wy, hn⟩ := h
  exact ⟨na, nb, ao, bo, la, ca, lb, cb, n, x, y, ⟨(hb.cell (p := ⟨b, o, none⟩) hlt).trans h0, (hb.cell (p := ⟨b, o + 1, none⟩) hlt).trans h1, (hb.cell (p := ⟨b, o + 2, none⟩) hlt).trans h2, (hb.cell (p := ⟨b, o + 3, none⟩) hlt).trans h3, (hb.cell (p := ⟨b, o + 4, none⟩) hlt).trans h4⟩, hx.later hb, wx, hy.later hb, wy, hn⟩
end Go.Proofs.YtnniipekcbjloaaDoor
