/-
  A pack of walks and facts: W9.
-/
import Derived.Test.YthjkdnlbdhhmbaaGreatDoorPV02
import Derived.Deep.RegionHeld3
set_option maxRecDepth 100000
set_option maxHeartbeats 40000000
set_option linter.unusedVariables false
set_option linter.unusedSimpArgs false
namespace Go.Proofs.YthjkdnlbdhhmbaaGreatDoor
open Go.RowKit
structure Touch (g : Nat) (w w' : World) : Prop where
 os : w'.os = w.os
 tape : w'.tape = w.tape
 output : w'.output = w.output
 size : w'.heap.size = w.heap.size
 block : ∀ k, k ≠ g → w'.heap[k]? = w.heap[k]?
theorem Touch.refl (g : Nat) (w : World) : Touch g w w := ⟨rfl, rfl, rfl, rfl, fun _ _ => rfl⟩
theorem Touch.set {g : Nat} {a w : World} (h : Touch g a w) (j : Nat) (v : Value) : Touch g a (w.setCell ⟨g, j, none⟩ v) :=
 ⟨h.os, h.tape, h.output, by simpa [World.setCell] using h.size, fun k hk => by rw [Below.heap_setCell _ _ _ _ hk]; exact h.block k hk⟩
theorem Touch.drewN {g : Nat} {a w : World} (h : Touch g a w) (n : Nat) : Touch g a (w.drewN n) := ⟨h.os, h.tape, h.output, h.size, h.block⟩
theorem Touch.below {g B : Nat} {a w : World} (h : Touch g a w) (hB : B ≤ g) : Below B a w := ⟨h.os, h.tape, h.output, Nat.le_of_eq h.size.symm, fun k hk => h.block k (by omega)⟩
theorem Touch.trans {g : Nat} {a b c : World} (h : Touch g a b) (k : Touch g b c) : Touch g a c := ⟨k.os.trans h.os, k.tape.trans h.tape, k.output.trans h.output, k.size.trans h.size, fun i hi => (k.block i hi).trans (h.block i hi)⟩
def Apart (bo : Option Addr) (m g off n : Nat) : Prop := ∀ b o, bo = some ⟨b, o, none⟩ → ∀ t, t < m → ∀ k, k < n → b = g → o + t ≠ off + k
theorem row_touch {w wr : World} {bo : Option Addr} {m cb g off n : Nat} {ys L Lk : List Int} {t : TypeId} (hy : RowAt w .u64 bo m cb ys) (hb : Blk w g .u64 t L) (hk : Blk wr g .u64 t Lk) (hto : Touch g w wr) (hap : Apart bo m g off n)
  (hout : ∀ j, j < off ∨ off + n ≤ j → dig Lk j = dig L j) (hl : Lk.length = L.length) : RowAt wr .u64 bo m cb ys := by
 refine ⟨hy.hlen, hy.hcap, hy.hnil, ?_⟩
 rcases hy.hat with h0 | ⟨b, o, rfl, hlt, hc⟩
 ·
  exact Or.inl h0
 ·
  refine Or.inr ⟨b, o, rfl, by rw [hto.size]; exact hlt, fun t ht => ?_⟩
  by_cases e : b = g
  ·
   subst e
   have h1 := hc t ht
   have hlen : o + t < L.length := by
    by_cases h : o + t < L.length
    ·
     exact h
    ·
     exfalso
     unfold Blk at hb
     simp [World.cell?, hb, List.getElem?_eq_none (Nat.le_of_not_lt h)] at h1
   rw [hb.cell hlen] at h1
   rw [hk.cell (by omega), hout (o + t) ?_]
   ·
    exact h1
   ·
    have := fun k hk => hap b o rfl t ht k hk rfl
    by_cases h2 : o + t < off
    ·
     exact Or.inl h2
    ·
     by_cases h3 : off + n ≤ o + t
     ·
      exact Or.inr h3
     ·
      exact absurd rfl (fun e : o + t = o + t => (this (o + t - off) (by omega)) (by omega))
  ·
   rw [World.cell?_of_block (w := w) (hto.block b e)]; exact hc t ht
def Summed (s : Int) (w w' : World) (e : Ending) (g off n : Nat) (L ys : List Int) : Prop :=
 ∃ c L', e = .returned (.int .u64 c) ∧ Blk w' g .u64 60 L' ∧ L'.length = L.length ∧ Wd 18446744073709551616 L' ∧ (∀ j, j < off ∨ off + n ≤ j → dig L' j = dig L j) ∧ 0 ≤ c ∧ c ≤ 1 ∧
  V 18446744073709551616 L' off n + s * (c * 18446744073709551616 ^ n) = V 18446744073709551616 L off n + s * val 18446744073709551616 ys ∧ Touch g w w'
theorem addInto_any (g off n cap : Nat) (bo : Option Addr) (m cb : Nat) (L ys : List Int) (w : World) (hb : Blk w g .u64 60 L) (hW : Wd 18446744073709551616 L) (hn : off + n ≤ L.length) (hnc : n ≤ cap) (hcap : cap ≤ 4611686018427387904)
  (hy : RowAt w .u64 bo m cb ys) (hyW : Wd 18446744073709551616 ys) (hm : m ≤ n) (hap : Apart bo m g off n) :
  Calls Tryz.prog 133 #[.slice (some ⟨g, off, none⟩) n cap, .slice bo m cb] w fun e w' => Summed 1 w w' e g off n L ys := by
 have HY : Hid (m = ys.length) := hy.hlen
 have HH : Hid (Blk w g .u64 60 L ∧ Wd 18446744073709551616 L ∧ off + n ≤ L.length ∧ Wd 18446744073709551616 ys ∧ Apart bo m g off n) := ⟨hb, hW, hn, hyW, hap⟩
 clear hb hW hn hyW hap
 go_enter Tryz.func133, Tryz.ntmps133
 go_wp2
 go_loopw [6, 16] (fun c i wr => ∃ (k : Nat) (cv : Int) (Lk : List Int), k ≤ m ∧ i = .int .i64 k ∧ c = .int .u64 cv ∧ St 1 18446744073709551616 L ys off k cv Lk ∧ Blk wr g .u64 60 Lk ∧ Touch g w wr) (fun _ i _ => m - (intOf i).toNat)
 case atStart => exact ⟨0, 0, L, Nat.zero_le _, rfl, rfl, St.start off HH.out.2.1, HH.out.1, Touch.refl _ _⟩
 case round =>
  obtain ⟨k, cv, Lk, hk, rfl, rfl, hst, hbl, hto⟩ := hrel
  have HS : Hid (St 1 18446744073709551616 L ys off k cv Lk ∧ Blk wr g .u64 60 Lk ∧ Touch g w wr) := ⟨hst, hbl, hto⟩
  by_cases hlt : k < m
  ·
   have hyr : RowAt wr .u64 bo m cb ys := row_touch hy HH.out.1 hbl hto HH.out.2.2.2.2 (fun j hj => hst.out j (by omega)) hst.len
   obtain ⟨b', o', rfl, hb', hc'⟩ := hyr.get (by omega)
   have hcy := hc' k hlt
   have hcz := hbl.cell (j := off + k) (by have := hst.len; have := HH.out.2.2.1; omega)
   have hfz := hbl.frozen (off + k)
   have hgs : g < wr.heap.size := hbl.lt
   obtain ⟨d, c', hrun, hd, hcc, he⟩ := add64_ex (dig Lk (off + k)) (dig ys k) cv (hst.wd.dig (by decide) _) (HH.out.2.2.2.1.dig (by decide) _) hst.c0 hst.c1
   have HD : Hid ((0 ≤ d ∧ d < 18446744073709551616) ∧ (0 ≤ c' ∧ c' ≤ 1) ∧ d + 1 * (c' * 18446744073709551616) = dig Lk (off + k) + 1 * (dig ys k + cv)) := ⟨hd, hcc, he⟩
   clear hd hcc he hst hbl hto hyr hy hc'
   go_wp2_with (simp only [hrun])
   go_roundw
   case rel => exact ⟨k + 1, c', Lk.set (off + k) d, by omega, by go_num, rfl, HS.out.1.step (by have := HH.out.2.2.1; omega) HD.out.1 HD.out.2.1 (by have := HD.out.2.2; rw [HS.out.1.out (off + k) (by omega)] at this; exact this), HS.out.2.1.set _ _, HS.out.2.2.set _ _⟩
   case measure => simp [intOf]; omega
  ·
   obtain rfl : k = m := by omega
   clear hst hbl hto
   go_wp2
   obtain ⟨wo, rfl⟩ : ∃ wo : World, wo = wr := ⟨_, rfl⟩
   go_loopw [6, 9] (fun c i wr => ∃ (j : Nat) (cv : Int) (Lk : List Int), k ≤ j ∧ j ≤ n ∧ i = .int .i64 j ∧ c = .int .u64 cv ∧ St 1 18446744073709551616 L ys off j cv Lk ∧ Blk wr g .u64 60 Lk ∧ Touch g w wr) (fun _ i _ => n - (intOf i).toNat)
   case atStart => exact ⟨k, cv, Lk, Nat.le_refl _, hm, rfl, rfl, HS.out.1, HS.out.2.1, HS.out.2.2⟩
   case round =>
    clear HS
    obtain ⟨j, cv, Lk, hj1, hj2, rfl, rfl, hst, hbl, hto⟩ := hrel
    have HS : Hid (St 1 18446744073709551616 L ys off j cv Lk ∧ Blk wr g .u64 60 Lk ∧ Touch g w wr) := ⟨hst, hbl, hto⟩
    have hc0 := hst.c0
    have hc1 := hst.c1
    by_cases hz : cv = 0
    ·
     subst hz
     clear hst hbl hto hy
     go_wp2
     go_ret
     exact ⟨0, Lk, rfl, HS.out.2.1, HS.out.1.len, HS.out.1.wd, fun i hi => HS.out.1.out i (by omega), by decide, by decide, HS.out.1.finish hj2 (by have := HY.out; omega) (Or.inr rfl), HS.out.2.2⟩
    ·
     have hne : (cv != 0) = true := by simpa using hz
     by_cases hlt2 : j < n
     ·
      have hcz := hbl.cell (j := off + j) (by have := hst.len; have := HH.out.2.2.1; omega)
      have hfz := hbl.frozen (off + j)
      have hgs : g < wr.heap.size := hbl.lt
      obtain ⟨d, c', hrun, hd, hcc, he⟩ := add64_ex (dig Lk (off + j)) 0 cv (hst.wd.dig (by decide) _) (by decide) hst.c0 hst.c1
      have HD : Hid ((0 ≤ d ∧ d < 18446744073709551616) ∧ (0 ≤ c' ∧ c' ≤ 1) ∧ d + 1 * (c' * 18446744073709551616) = dig Lk (off + j) + 1 * (0 + cv)) := ⟨hd, hcc, he⟩
      clear hd hcc he hst hbl hto hy
      go_wp2_with (simp only [hrun])
      go_roundw
      case rel => exact ⟨j + 1, c', Lk.set (off + j) d, by omega, by omega, by go_num, rfl, HS.out.1.step (by have := HH.out.2.2.1; omega) HD.out.1 HD.out.2.1 (by have := HD.out.2.2; rw [HS.out.1.out (off + j) (by omega)] at this; rw [show dig ys j = 0 by (have := HY.out; simp [dig, List.getElem?_eq_none (show ys.length ≤ j by omega)])]; exact this), HS.out.2.1.set _ _, HS.out.2.2.set _ _⟩
      case measure => simp [intOf]; omega
     ·
      obtain rfl : j = n := by omega
      clear hst hbl hto hy
      go_wp2
      go_ret
      exact ⟨cv, Lk, rfl, HS.out.2.1, HS.out.1.len, HS.out.1.wd, fun i hi => HS.out.1.out i (by omega), hc0, hc1, HS.out.1.finish hj2 (by have := HY.out; omega) (Or.inl rfl), HS.out.2.2⟩
theorem subInto_any (g off n cap : Nat) (bo : Option Addr) (m cb : Nat) (L ys : List Int) (w : World) (hb : Blk w g .u64 60 L) (hW : Wd 18446744073709551616 L) (hn : off + n ≤ L.length) (hnc : n ≤ cap) (hcap : cap ≤ 4611686018427387904)
  (hy : RowAt w .u64 bo m cb ys) (hyW : Wd 18446744073709551616 ys) (hm : m ≤ n) (hap : Apart bo m g off n) :
  Calls Tryz.prog 134 #[.slice (some ⟨g, off, none⟩) n cap, .slice bo m cb] w fun e w' => Summed (-1) w w' e g off n L ys := by
 have HY : Hid (m = ys.length) := hy.hlen
 have HH : Hid (Blk w g .u64 60 L ∧ Wd 18446744073709551616 L ∧ off + n ≤ L.length ∧ Wd 18446744073709551616 ys ∧ Apart bo m g off n) := ⟨hb, hW, hn, hyW, hap⟩
 clear hb hW hn hyW hap
 go_enter Tryz.func134, Tryz.ntmps134
 go_wp2
 go_loopw [6, 16] (fun c i wr => ∃ (k : Nat) (cv : Int) (Lk : List Int), k ≤ m ∧ i = .int .i64 k ∧ c = .int .u64 cv ∧ St (-1) 18446744073709551616 L ys off k cv Lk ∧ Blk wr g .u64 60 Lk ∧ Touch g w wr) (fun _ i _ => m - (intOf i).toNat)
 case atStart => exact ⟨0, 0, L, Nat.zero_le _, rfl, rfl, St.start off HH.out.2.1, HH.out.1, Touch.refl _ _⟩
 case round =>
  obtain ⟨k, cv, Lk, hk, rfl, rfl, hst, hbl, hto⟩ := hrel
  have HS : Hid (St (-1) 18446744073709551616 L ys off k cv Lk ∧ Blk wr g .u64 60 Lk ∧ Touch g w wr) := ⟨hst, hbl, hto⟩
  by_cases hlt : k < m
  ·
   have hyr : RowAt wr .u64 bo m cb ys := row_touch hy HH.out.1 hbl hto HH.out.2.2.2.2 (fun j hj => hst.out j (by omega)) hst.len
   obtain ⟨b', o', rfl, hb', hc'⟩ := hyr.get (by omega)
   have hcy := hc' k hlt
   have hcz := hbl.cell (j := off + k) (by have := hst.len; have := HH.out.2.2.1; omega)
   have hfz := hbl.frozen (off + k)
   have hgs : g < wr.heap.size := hbl.lt
   obtain ⟨d, c', hrun, hd, hcc, he⟩ := sub64_ex (dig Lk (off + k)) (dig ys k) cv (hst.wd.dig (by decide) _) (HH.out.2.2.2.1.dig (by decide) _) hst.c0 hst.c1
   have HD : Hid ((0 ≤ d ∧ d < 18446744073709551616) ∧ (0 ≤ c' ∧ c' ≤ 1) ∧ d + (-1) * (c' * 18446744073709551616) = dig Lk (off + k) + (-1) * (dig ys k + cv)) := ⟨hd, hcc, he⟩
   clear hd hcc he hst hbl hto hyr hy hc'
   go_wp2_with (simp only [hrun])
   go_roundw
   case rel => exact ⟨k + 1, c', Lk.set (off + k) d, by omega, by go_num, rfl, HS.out.1.step (by have := HH.out.2.2.1; omega) HD.out.1 HD.out.2.1 (by have := HD.out.2.2; rw [HS.out.1.out (off + k) (by omega)] at this; exact this), HS.out.2.1.set _ _, HS.out.2.2.set _ _⟩
   case measure => simp [intOf]; omega
  ·
   obtain rfl : k = m := by omega
   clear hst hbl hto
   go_wp2
   obtain ⟨wo, rfl⟩ : ∃ wo : World, wo = wr := ⟨_, rfl⟩
   go_loopw [6, 9] (fun c i wr => ∃ (j : Nat) (cv : Int) (Lk : List Int), k ≤ j ∧ j ≤ n ∧ i = .int .i64 j ∧ c = .int .u64 cv ∧ St (-1) 18446744073709551616 L ys off j cv Lk ∧ Blk wr g .u64 60 Lk ∧ Touch g w wr) (fun _ i _ => n - (intOf i).toNat)
   case atStart => exact ⟨k, cv, Lk, Nat.le_refl _, hm, rfl, rfl, HS.out.1, HS.out.2.1, HS.out.2.2⟩
   case round =>
    clear HS
    obtain ⟨j, cv, Lk, hj1, hj2, rfl, rfl, hst, hbl, hto⟩ := hrel
    have HS : Hid (St (-1) 18446744073709551616 L ys off j cv Lk ∧ Blk wr g .u64 60 Lk ∧ Touch g w wr) := ⟨hst, hbl, hto⟩
    have hc0 := hst.c0
    have hc1 := hst.c1
    by_cases hz : cv = 0
    ·
     subst hz
     clear hst hbl hto hy
     go_wp2
     go_ret
     exact ⟨0, Lk, rfl, HS.out.2.1, HS.out.1.len, HS.out.1.wd, fun i hi => HS.out.1.out i (by omega), by decide, by decide, HS.out.1.finish hj2 (by have := HY.out; omega) (Or.inr rfl), HS.out.2.2⟩
    ·
     have hne : (cv != 0) = true := by simpa using hz
     by_cases hlt2 : j < n
     ·
      have hcz := hbl.cell (j := off + j) (by have := hst.len; have := HH.out.2.2.1; omega)
      have hfz := hbl.frozen (off + j)
      have hgs : g < wr.heap.size := hbl.lt
      obtain ⟨d, c', hrun, hd, hcc, he⟩ := sub64_ex (dig Lk (off + j)) 0 cv (hst.wd.dig (by decide) _) (by decide) hst.c0 hst.c1
      have HD : Hid ((0 ≤ d ∧ d < 18446744073709551616) ∧ (0 ≤ c' ∧ c' ≤ 1) ∧ d + (-1) * (c' * 18446744073709551616) = dig Lk (off + j) + (-1) * (0 + cv)) := ⟨hd, hcc, he⟩
      clear hd hcc he hst hbl hto hy
      go_wp2_with (simp only [hrun])
      go_roundw
      case rel => exact ⟨j + 1, c', Lk.set (off + j) d, by omega, by omega, by go_num, rfl, HS.out.1.step (by have := HH.out.2.2.1; omega) HD.out.1 HD.out.2.1 (by have := HD.out.2.2; rw [HS.out.1.out (off + j) (by omega)] at this; rw [show dig ys j = 0 by (have := HY.out; simp [dig, List.getElem?_eq_none (show ys.length ≤ j by omega)])]; exact this), HS.out.2.1.set _ _, HS.out.2.2.set _ _⟩
      case measure => simp [intOf]; omega
     ·
      obtain rfl : j = n := by omega
      clear hst hbl hto hy
      go_wp2
      go_ret
      exact ⟨cv, Lk, rfl, HS.out.2.1, HS.out.1.len, HS.out.1.wd, fun i hi => HS.out.1.out i (by omega), hc0, hc1, HS.out.1.finish hj2 (by have := HY.out; omega) (Or.inl rfl), HS.out.2.2⟩
def SumAll (w w' : World) (e : Ending) (g n : Nat) (T : Int) : Prop :=
 ∃ c L', e = .returned (.int .u64 c) ∧ Blk w' g .u64 60 L' ∧ L'.length = n ∧ Wd 18446744073709551616 L' ∧ val 18446744073709551616 L' = T ∧ Touch g w w'
theorem Summed.all {s : Int} {w w' : World} {e : Ending} {g n : Nat} {L ys : List Int} {T : Int} (h : Summed s w w' e g 0 n L ys) (hs : s = 1 ∨ s = -1) (hn : n = L.length) (hT : T = val 18446744073709551616 L + s * val 18446744073709551616 ys) (h0 : 0 ≤ T) (h1 : T < 18446744073709551616 ^ n) : SumAll w w' e g n T := by
 obtain ⟨c, L', he, hb, hl, hw, _, hc0, hc1, hV, hto⟩ := h
 refine ⟨c, L', he, hb, by omega, hw, ?_, hto⟩
 rw [V_all _ (by omega), V_all _ hn] at hV
 have a1 := val_nonneg (q := 18446744073709551616) (by decide) hw
 have a2 := val_lt (q := 18446744073709551616) (by decide) hw
 have e1 : L'.length = n := by omega
 rw [e1] at a2
 rw [← hT] at hV
 have hc : c = 0 ∨ c = 1 := by omega
 obtain ⟨Q, hQ⟩ : ∃ Q : Int, (18446744073709551616 : Int) ^ n = Q := ⟨_, rfl⟩
 rw [hQ] at hV a2 h1
 rcases hc with rfl | rfl <;> rcases hs with rfl | rfl <;> omega
theorem mag_len_lt {n : Nat} {l : Nat} (h : l = (mag n).length) : (n : Int) < 18446744073709551616 ^ l := by
 have := val_lt (q := 18446744073709551616) (by decide) (mag_wd n)
 rw [mag_val, ← h] at this; exact this
theorem mag_len_mono {a b : Nat} (h : b ≤ a) : (mag b).length ≤ (mag a).length := by
 by_cases hlt : (mag a).length < (mag b).length
 ·
  have := val_lt_of_len (q := 18446744073709551616) (by decide) (mag_wd a) (mag_wd b) (mag_can b) hlt
  rw [mag_val, mag_val] at this; omega
 ·
  omega
theorem mag_len_le {n k : Nat} (h : (n : Int) < 18446744073709551616 ^ k) : (mag n).length ≤ k := by
 by_cases e : mag n = []
 ·
  rw [e]; exact Nat.zero_le _
 ·
  have h1 := val_ge (q := 18446744073709551616) (by decide) (mag_wd n) (mag_can n) e
  rw [mag_val] at h1
  by_cases hk : (mag n).length ≤ k
  ·
   exact hk
  ·
   have h2 := pow_mono' (q := 18446744073709551616) (by decide) (show k ≤ (mag n).length - 1 by omega)
   omega
theorem mag_len_add (a b : Nat) : (mag (a + b)).length ≤ (mag a).length + (mag b).length + 1 := by
 have h1 := mag_len_lt (n := a) rfl
 have h2 := mag_len_lt (n := b) rfl
 apply mag_len_le
 have h3 := pow_mono' (q := 18446744073709551616) (by decide) (show (mag a).length ≤ (mag a).length + (mag b).length by omega)
 have h4 := pow_mono' (q := 18446744073709551616) (by decide) (show (mag b).length ≤ (mag a).length + (mag b).length by omega)
 rw [Int.pow_succ]; omega
theorem Trimmed.natOwn {w0 w : World} {ao : Option Addr} {n cap : Nat} {L : List Int} {e : Ending} {N : Nat} (h : Trimmed w .u64 ao n cap L e) (ho : Own w0.heap.size w .u64 60 ao n cap L) (hW : Wd 18446744073709551616 L) (hv : val 18446744073709551616 L = N) (hB : Below w0.heap.size w0 w) : NewNat w0 w e N := by
 obtain ⟨ao', k, cap', hk, he, hr, hc, hval, hor⟩ := h
 have hm : mag N = L.take k := mag_of (hW.take k) hc (by rw [hval, hv])
 refine ⟨ao', k, cap', he, ?_, hB⟩
 rw [hm]
 rcases hor with ⟨rfl, rfl⟩ | ⟨rfl, rfl⟩
 ·
  exact ho.take hk
 ·
  exact Or.inl ⟨rfl, rfl, hr.hnil rfl, by simp⟩
theorem Trimmed.nat {w0 w : World} {g n : Nat} {L : List Int} {e : Ending} {N : Nat} (h : Trimmed w .u64 (some ⟨g, 0, none⟩) n n L e) (hb : Blk w g .u64 60 L) (hn : n = L.length) (hg : w0.heap.size ≤ g) (hW : Wd 18446744073709551616 L) (hv : val 18446744073709551616 L = N) (hB : Below w0.heap.size w0 w) : NewNat w0 w e N := by
 obtain ⟨ao', k, cap', hk, he, hr, hc, hval, hor⟩ := h
 have hm : mag N = L.take k := mag_of (hW.take k) hc (by rw [hval, hv])
 refine ⟨ao', k, cap', he, ?_, hB⟩
 rw [hm]
 rcases hor with ⟨rfl, rfl⟩ | ⟨rfl, rfl⟩
 ·
  exact (Own.whole hb hg hn).take hk
 ·
  refine Or.inl ⟨rfl, rfl, ?_, by simp⟩
  exact hr.hnil rfl
theorem apart_new {w : World} {k : IntKind} {bo : Option Addr} {m cb g : Nat} {ys : List Int} (h : RowAt w k bo m cb ys) (hg : w.heap.size ≤ g) {off n : Nat} : Apart bo m g off n := by
 intro b o hbo t ht k hk e
 obtain ⟨b', o', h1, h2, _⟩ := h.get (by omega)
 rw [h1] at hbo
 simp only [Option.some.injEq, Addr.mk.injEq] at hbo
 omega
theorem plus_any (ao bo : Option Addr) (la ca lb cb : Nat) (a b : Nat) (w : World) (hx : RowAt w .u64 ao la ca (mag a)) (hy : RowAt w .u64 bo lb cb (mag b)) (hl : la ≤ 4294967296) (hl' : lb ≤ 4294967296) :
  Calls Tryz.prog 113 #[.slice ao la ca, .slice bo lb cb] w fun e w' => NewNat w w' e (a + b) := by
 obtain ⟨i0, hi, hz0, hz1, hz2⟩ := info_parts info64
 by_cases hlt : la < lb
 ·
  have _h := hlt
  have HX : Hid (RowAt w .u64 bo lb cb (mag b) ∧ RowAt w .u64 ao la ca (mag a)) := ⟨hy, hx⟩
  have b1 : Hid (i0.bytes * (lb + 1) ≤ 281474976710656) := by show _ ≤ _; rw [hz2]; omega
  have b2 : Hid (lb + 1 ≤ maxLen) := by show _ ≤ _; unfold maxLen; omega
  have b3 : Hid (((mag b).map (Value.int .u64)).length = Nat.min lb (lb + 1)) := by
   show _ = _; rw [List.length_map, ← HX.out.1.hlen]; exact (Nat.min_eq_left (by omega)).symm
  have b4 : Hid (0 + ((mag b).map (Value.int .u64)).length ≤ ((List.replicate (lb + 1) (0 : Int)).map (Value.int .u64)).length) := by
   show _ ≤ _; simp only [List.length_map, List.length_replicate, ← HX.out.1.hlen]; omega
  have b5 : Hid (splice (List.replicate (lb + 1) (0 : Int)) 0 (mag b) = mag b ++ [0]) := by
   show _ = _; simp [splice, ← HX.out.1.hlen]
  have b6 : Hid (((mag b) ++ [0]).length = lb + 1) := by show _ = _; simp [← HX.out.1.hlen]
  have b7 : Hid (Wd 18446744073709551616 (mag b ++ [0])) := (mag_wd _).append (Wd.one (by decide))
  have b8 : Hid (((a + b : Nat) : Int) = val 18446744073709551616 (mag b ++ [0]) + 1 * val 18446744073709551616 (mag a)) := by
   show _ = _; rw [val_snoc, mag_val, mag_val]; first | (simp; done) | (simp; omega)
  have b9 : Hid (((a + b : Nat) : Int) < 18446744073709551616 ^ (lb + 1)) := by
   show _ < _
   have t1 := mag_len_lt HX.out.1.hlen
   have t2 := mag_len_lt HX.out.2.hlen
   have t3 := pow_mono' (q := 18446744073709551616) (by decide) (show la ≤ lb by omega)
   rw [Int.pow_succ]; omega
  clear hy hx
  go_enter Tryz.func113, Tryz.ntmps113
  go_wp2_with (first
   | (at_make; refine wpList_make_full _ rfl (.tmp 15) (.tmp 15) 26 rfl w.heap.size 60 i0 (.int .u64 0) 1 Tryz.underlying26 hi hz0 hz1 .i64 .i64 _ _ (lb + 1) rfl rfl (by omega) (by omega) b1.out b2.out (Nat.le_refl _) ?_; intro w1 hown1 hgrow1)
   | (have _t := hown1; refine wpList_copy_splice rfl (.tmp 17) (.tmp 18) 26 26 rfl 60 Tryz.underlying26 size64 _ _ _ _ _ _ rfl rfl w.heap.size 0 ((List.replicate (lb + 1) (0 : Int)).map (Value.int .u64)) 60 (made_blk hown1) ((mag b).map (Value.int .u64)) b3.out (fun hp => ⟨rfl, (HX.out.1.later (grown_below hgrow1)).src (by rw [List.length_map, ← HX.out.1.hlen] at hp; exact hp)⟩) b4.out (ints_oneCell _ _) w.heap.size w (grown_below hgrow1) (Nat.le_refl _) ?_; intro w2 hg2 hb2)
   | (go_at_call 133; refine (addInto_any w.heap.size 0 (lb + 1) (lb + 1) ao la ca (mag b ++ [0]) (mag a) w2 (b5.out ▸ blk_splice hg2.out) b7.out (by rw [b6.out]; omega) (Nat.le_refl _) (by omega) (HX.out.2.later hb2) (mag_wd _) (by omega) (apart_new HX.out.2 (Nat.le_refl _))).mono ?_; intro e w3 hS; obtain ⟨c, L', rfl, hb3, hl3, hw3, hv3, hto3⟩ := hS.all (T := ((a + b : Nat) : Int)) (Or.inl rfl) b6.out.symm b8.out (by omega) b9.out; clear hS)
   | (go_at_call 123; refine (trim_any (some ⟨w.heap.size, 0, none⟩) (lb + 1) (lb + 1) L' w3 (Own.whole hb3 (Nat.le_refl _) hl3.symm).row (by omega)).mono ?_; rintro e w4 ⟨hT, rfl⟩; obtain ⟨ao', n', cap', hn', rfl, hrest⟩ := hT))
  go_ret
  exact Trimmed.nat (L := L') ⟨ao', n', cap', hn', rfl, hrest⟩ hb3 hl3.symm (Nat.le_refl _) hw3 hv3 (hb2.trans (hto3.below (Nat.le_refl _)))
 ·
  have _h := hlt
  have HX : Hid (RowAt w .u64 ao la ca (mag a) ∧ RowAt w .u64 bo lb cb (mag b)) := ⟨hx, hy⟩
  have b1 : Hid (i0.bytes * (la + 1) ≤ 281474976710656) := by show _ ≤ _; rw [hz2]; omega
  have b2 : Hid (la + 1 ≤ maxLen) := by show _ ≤ _; unfold maxLen; omega
  have b3 : Hid (((mag a).map (Value.int .u64)).length = Nat.min la (la + 1)) := by
   show _ = _; rw [List.length_map, ← HX.out.1.hlen]; exact (Nat.min_eq_left (by omega)).symm
  have b4 : Hid (0 + ((mag a).map (Value.int .u64)).length ≤ ((List.replicate (la + 1) (0 : Int)).map (Value.int .u64)).length) := by
   show _ ≤ _; simp only [List.length_map, List.length_replicate, ← HX.out.1.hlen]; omega
  have b5 : Hid (splice (List.replicate (la + 1) (0 : Int)) 0 (mag a) = mag a ++ [0]) := by
   show _ = _; simp [splice, ← HX.out.1.hlen]
  have b6 : Hid (((mag a) ++ [0]).length = la + 1) := by show _ = _; simp [← HX.out.1.hlen]
  have b7 : Hid (Wd 18446744073709551616 (mag a ++ [0])) := (mag_wd _).append (Wd.one (by decide))
  have b8 : Hid (((a + b : Nat) : Int) = val 18446744073709551616 (mag a ++ [0]) + 1 * val 18446744073709551616 (mag b)) := by
   show _ = _; rw [val_snoc, mag_val, mag_val]; first | (simp; done) | (simp; omega)
  have b9 : Hid (((a + b : Nat) : Int) < 18446744073709551616 ^ (la + 1)) := by
   show _ < _
   have t1 := mag_len_lt HX.out.1.hlen
   have t2 := mag_len_lt HX.out.2.hlen
   have t3 := pow_mono' (q := 18446744073709551616) (by decide) (show lb ≤ la by omega)
   rw [Int.pow_succ]; omega
  clear hx hy
  go_enter Tryz.func113, Tryz.ntmps113
  go_wp2_with (first
   | (at_make; refine wpList_make_full _ rfl (.tmp 15) (.tmp 15) 26 rfl w.heap.size 60 i0 (.int .u64 0) 1 Tryz.underlying26 hi hz0 hz1 .i64 .i64 _ _ (la + 1) rfl rfl (by omega) (by omega) b1.out b2.out (Nat.le_refl _) ?_; intro w1 hown1 hgrow1)
   | (have _t := hown1; refine wpList_copy_splice rfl (.tmp 17) (.tmp 18) 26 26 rfl 60 Tryz.underlying26 size64 _ _ _ _ _ _ rfl rfl w.heap.size 0 ((List.replicate (la + 1) (0 : Int)).map (Value.int .u64)) 60 (made_blk hown1) ((mag a).map (Value.int .u64)) b3.out (fun hp => ⟨rfl, (HX.out.1.later (grown_below hgrow1)).src (by rw [List.length_map, ← HX.out.1.hlen] at hp; exact hp)⟩) b4.out (ints_oneCell _ _) w.heap.size w (grown_below hgrow1) (Nat.le_refl _) ?_; intro w2 hg2 hb2)
   | (go_at_call 133; refine (addInto_any w.heap.size 0 (la + 1) (la + 1) bo lb cb (mag a ++ [0]) (mag b) w2 (b5.out ▸ blk_splice hg2.out) b7.out (by rw [b6.out]; omega) (Nat.le_refl _) (by omega) (HX.out.2.later hb2) (mag_wd _) (by omega) (apart_new HX.out.2 (Nat.le_refl _))).mono ?_; intro e w3 hS; obtain ⟨c, L', rfl, hb3, hl3, hw3, hv3, hto3⟩ := hS.all (T := ((a + b : Nat) : Int)) (Or.inl rfl) b6.out.symm b8.out (by omega) b9.out; clear hS)
   | (go_at_call 123; refine (trim_any (some ⟨w.heap.size, 0, none⟩) (la + 1) (la + 1) L' w3 (Own.whole hb3 (Nat.le_refl _) hl3.symm).row (by omega)).mono ?_; rintro e w4 ⟨hT, rfl⟩; obtain ⟨ao', n', cap', hn', rfl, hrest⟩ := hT))
  go_ret
  exact Trimmed.nat (L := L') ⟨ao', n', cap', hn', rfl, hrest⟩ hb3 hl3.symm (Nat.le_refl _) hw3 hv3 (hb2.trans (hto3.below (Nat.le_refl _)))
theorem minus_any (ao bo : Option Addr) (la ca lb cb : Nat) (a b : Nat) (w : World) (hx : RowAt w .u64 ao la ca (mag a)) (hy : RowAt w .u64 bo lb cb (mag b)) (hl : la ≤ 4294967296) (hle : b ≤ a) :
  Calls Tryz.prog 114 #[.slice ao la ca, .slice bo lb cb] w fun e w' => NewNat w w' e (a - b) := by
 obtain ⟨i0, hi, hz0, hz1, hz2⟩ := info_parts info64
 have HX : Hid (RowAt w .u64 ao la ca (mag a) ∧ RowAt w .u64 bo lb cb (mag b) ∧ b ≤ a) := ⟨hx, hy, hle⟩
 have hll : lb ≤ la := by rw [hx.hlen, hy.hlen]; exact mag_len_mono hle
 have b1 : Hid (i0.bytes * la ≤ 281474976710656) := by show _ ≤ _; rw [hz2]; omega
 have b2 : Hid (la ≤ maxLen) := by show _ ≤ _; unfold maxLen; omega
 have b3 : Hid (((mag a).map (Value.int .u64)).length = Nat.min la la) := by
  show _ = _; rw [List.length_map, ← HX.out.1.hlen]; exact (Nat.min_self _).symm
 have b4 : Hid (0 + ((mag a).map (Value.int .u64)).length ≤ ((List.replicate la (0 : Int)).map (Value.int .u64)).length) := by
  show _ ≤ _; simp only [List.length_map, List.length_replicate, ← HX.out.1.hlen]; omega
 have b5 : Hid (splice (List.replicate la (0 : Int)) 0 (mag a) = mag a) := by
  show _ = _; simp [splice, ← HX.out.1.hlen]
 have b8 : Hid (((a - b : Nat) : Int) = val 18446744073709551616 (mag a) + (-1) * val 18446744073709551616 (mag b)) := by
  show _ = _; rw [mag_val, mag_val]; omega
 have b9 : Hid (((a - b : Nat) : Int) < 18446744073709551616 ^ la) := by
  show _ < _
  have t1 := mag_len_lt HX.out.1.hlen
  omega
 clear hx hy hle
 go_enter Tryz.func114, Tryz.ntmps114
 go_wp2_with (first
  | (at_make; refine wpList_make_full _ rfl (.tmp 7) (.tmp 7) 26 rfl w.heap.size 60 i0 (.int .u64 0) 1 Tryz.underlying26 hi hz0 hz1 .i64 .i64 _ _ la rfl rfl rfl rfl b1.out b2.out (Nat.le_refl _) ?_; intro w1 hown1 hgrow1)
  | (have _t := hown1; refine wpList_copy_splice rfl (.tmp 9) (.tmp 10) 26 26 rfl 60 Tryz.underlying26 size64 _ _ _ _ _ _ rfl rfl w.heap.size 0 ((List.replicate la (0 : Int)).map (Value.int .u64)) 60 (made_blk hown1) ((mag a).map (Value.int .u64)) b3.out (fun hp => ⟨rfl, (HX.out.1.later (grown_below hgrow1)).src (by rw [List.length_map, ← HX.out.1.hlen] at hp; exact hp)⟩) b4.out (ints_oneCell _ _) w.heap.size w (grown_below hgrow1) (Nat.le_refl _) ?_; intro w2 hg2 hb2)
  | (go_at_call 134; refine (subInto_any w.heap.size 0 la la bo lb cb (mag a) (mag b) w2 (b5.out ▸ blk_splice hg2.out) (mag_wd _) (by rw [← HX.out.1.hlen]; omega) (Nat.le_refl _) (by omega) (HX.out.2.1.later hb2) (mag_wd _) hll (apart_new HX.out.2.1 (Nat.le_refl _))).mono ?_; intro e w3 hS; obtain ⟨c, L', rfl, hb3, hl3, hw3, hv3, hto3⟩ := hS.all (T := ((a - b : Nat) : Int)) (Or.inr rfl) HX.out.1.hlen b8.out (by omega) b9.out; clear hS)
  | (go_at_call 123; refine (trim_any (some ⟨w.heap.size, 0, none⟩) la la L' w3 (Own.whole hb3 (Nat.le_refl _) hl3.symm).row (by omega)).mono ?_; rintro e w4 ⟨hT, rfl⟩; obtain ⟨ao', n', cap', hn', rfl, hrest⟩ := hT))
 go_ret
 exact Trimmed.nat (L := L') ⟨ao', n', cap', hn', rfl, hrest⟩ hb3 hl3.symm (Nat.le_refl _) hw3 hv3 (hb2.trans (hto3.below (Nat.le_refl _)))
theorem signed_any (neg : Bool) (ao : Option Addr) (len cap : Nat) (w : World) (hl : len ≤ 4611686018427387904) :
  Calls Tryz.prog 84 #[.bool neg, .slice ao len cap] w fun e w' => e = .returned (.agg #[.bool (neg && decide (0 < len)), .slice ao len cap]) ∧ Below w.heap.size w w' := by
 cases neg
 ·
  go_enter Tryz.func84, Tryz.ntmps84
  go_wp2
  exact bodyPost_ret (v := .agg #[.bool false, .slice ao len cap]) (by simp [results, Tryz.results84, go_sem]) rfl ⟨rfl, (Below.refl _ _).alloc (Nat.le_refl _) _⟩
 ·
  by_cases h : 0 < len
  ·
   rw [decide_eq_true h]
   go_enter Tryz.func84, Tryz.ntmps84
   go_wp2
   exact bodyPost_ret (v := .agg #[.bool true, .slice ao len cap]) (by simp [results, Tryz.results84, go_sem]) rfl ⟨rfl, (Below.refl _ _).alloc (Nat.le_refl _) _⟩
  ·
   rw [decide_eq_false h]
   go_enter Tryz.func84, Tryz.ntmps84
   go_wp2
   exact bodyPost_ret (v := .agg #[.bool false, .slice ao len cap]) (by simp [results, Tryz.results84, go_sem]) rfl ⟨rfl, (Below.refl _ _).alloc (Nat.le_refl _) _⟩
theorem Own.setOther {B : Nat} {w : World} {k : IntKind} {t : TypeId} {ao : Option Addr} {len cap : Nat} {zs : List Int} (h : Own B w k t ao len cap zs) {a : Addr} (ha : a.block < B) (v : Value) : Own B (w.setCell a v) k t ao len cap zs := by
 rcases h with h | ⟨g, off, L, h1, h2, h3, h4⟩
 ·
  exact Or.inl h
 ·
  exact Or.inr ⟨g, off, L, h1, h2, by rw [Below.heap_setCell _ _ _ _ (by omega)]; exact h3, h4⟩
theorem NewInt.ret {w w' : World} {B : Nat} {neg : Bool} {n l c : Nat} {ao : Option Addr} {v : Int} (ho : Own B w' .u64 60 ao l c (mag n)) (hB : w.heap.size ≤ B) (hv : v = sgn neg n) (hb : Below w.heap.size w w') : NewInt w w' (.returned (.agg #[.bool (neg && decide (0 < l)), .slice ao l c])) v := by
 subst hv
 refine ⟨_, _, _, _, rfl, ?_, ?_, hb⟩
 ·
  rw [sgB_sgn, ho.row.hlen]
 ·
  rw [natAbs_sgn]; exact ho.mono hB
theorem sgn_add_same {neg : Bool} {a b : Int} (ha : neg = sgB a) (hb : neg = sgB b) : a + b = sgn neg (a.natAbs + b.natAbs) := by
 have h1 := sgn_of ha
 have h2 := sgn_of hb
 unfold sgn at h1 h2 ⊢
 cases neg <;> simp at h1 h2 ⊢ <;> omega
theorem sgn_add_diff {na nb : Bool} {a b : Int} (ha : na = sgB a) (hb : nb = sgB b) (hd : na ≠ nb) (hle : b.natAbs ≤ a.natAbs) : a + b = sgn na (a.natAbs - b.natAbs) := by
 have h1 := sgn_of ha
 have h2 := sgn_of hb
 unfold sgn at h1 h2 ⊢
 cases na <;> cases nb <;> simp at h1 h2 hd ⊢ <;> omega
theorem compare_at (ao bo : Option Addr) (la ca lb cb a b : Nat) (w : World) (hx : RowAt w .u64 ao la ca (mag a)) (hy : RowAt w .u64 bo lb cb (mag b)) (hl : la ≤ 4294967296) (hl' : lb ≤ 4294967296) (c : Int) (hc : cmpI a b = c) :
  Calls Tryz.prog 115 #[.slice ao la ca, .slice bo lb cb] w fun e w' => e = .returned (.int .i64 c) ∧ Below w.heap.size w w' := by
 refine (compare_any ao bo la ca lb cb (mag a) (mag b) w hx hy (mag_wd _) (mag_wd _) (mag_can _) (mag_can _) (by omega) (by omega)).mono fun e w' h => ?_
 rw [mag_val, mag_val, hc] at h; exact h
theorem cmpI_ge {a b : Int} (h : b ≤ a) : ∃ c, cmpI a b = c ∧ 0 ≤ c := by
 refine ⟨_, rfl, ?_⟩
 unfold cmpI; split
 ·
  omega
 ·
  split <;> omega
theorem sum_same (na nb : Bool) (ao bo : Option Addr) (la ca lb cb : Nat) (a b : Int) (w : World) (hx : IntAt w na ao la ca a) (hy : IntAt w nb bo lb cb b) (hl : la ≤ 4294967296) (hl' : lb ≤ 4294967296) (hs : na = nb) :
  Calls Tryz.prog 103 #[.agg #[.bool na, .slice ao la ca], .agg #[.bool nb, .slice bo lb cb]] w fun e w' => NewInt w w' e (a + b) := by
 subst hs
 obtain ⟨W0, hW0⟩ : ∃ W0, W0 = ((w.alloc (.cells #[.bool na, .slice ao la ca] 28)).alloc (.cells #[.bool na, .slice bo lb cb] 28)).alloc (.cells #[.bool false, .slice none 0 0] 28) := ⟨_, rfl⟩
 have hbW : Below w.heap.size w W0 := by subst hW0; exact (((Below.refl _ _).alloc (Nat.le_refl _) _).alloc (by simp) _).alloc (by simp; omega) _
 have hx0 := hx.later hbW
 have hy0 := hy.later hbW
 have hsz : W0.heap.size = w.heap.size + 3 := by subst hW0; simp
 have c0 : W0.cell? ⟨w.heap.size, 0, none⟩ = some (.bool na) := by subst hW0; simp [go_sem]
 have c1 : W0.cell? ⟨w.heap.size, 1, none⟩ = some (.slice ao la ca) := by subst hW0; simp [go_sem]
 have c2 : W0.cell? ⟨w.heap.size + 1, 1, none⟩ = some (.slice bo lb cb) := by subst hW0; simp [go_sem]
 have c3 : W0.cell? ⟨w.heap.size + 1 + 1, 0, none⟩ = some (.bool false) := by subst hW0; simp [go_sem]
 have c4 : W0.cell? ⟨w.heap.size + 1 + 1, 1, none⟩ = some (.slice none 0 0) := by subst hW0; simp [go_sem]
 have f0 : ∀ j, W0.frozen? ⟨w.heap.size + 1 + 1, j, none⟩ = false := by intro j; subst hW0; simp [go_sem]
 have KS : Hid (∀ w' : World, Below (w.heap.size + 2) W0 w' → (Below (w.heap.size + 2) W0 w' ∧ w'.cell? ⟨w.heap.size, 0, none⟩ = some (.bool na) ∧ w'.cell? ⟨w.heap.size, 1, none⟩ = some (.slice ao la ca) ∧ w'.cell? ⟨w.heap.size + 1, 1, none⟩ = some (.slice bo lb cb))) := fun w' h => ⟨h, (h.cell (p := ⟨w.heap.size, 0, none⟩) (by show w.heap.size < _; omega)).trans c0, (h.cell (p := ⟨w.heap.size, 1, none⟩) (by show w.heap.size < _; omega)).trans c1, (h.cell (p := ⟨w.heap.size + 1, 1, none⟩) (by show w.heap.size + 1 < _; omega)).trans c2⟩
 have K1 : Hid (∀ w1 w2 : World, (Below (w.heap.size + 2) W0 w1 ∧ w1.cell? ⟨w.heap.size, 0, none⟩ = some (.bool na) ∧ w1.cell? ⟨w.heap.size, 1, none⟩ = some (.slice ao la ca) ∧ w1.cell? ⟨w.heap.size + 1, 1, none⟩ = some (.slice bo lb cb)) → Below w1.heap.size w1 w2 → (Below (w.heap.size + 2) W0 w2 ∧ w2.cell? ⟨w.heap.size, 0, none⟩ = some (.bool na) ∧ w2.cell? ⟨w.heap.size, 1, none⟩ = some (.slice ao la ca) ∧ w2.cell? ⟨w.heap.size + 1, 1, none⟩ = some (.slice bo lb cb))) := fun w1 w2 h hb => KS.out _ (h.1.trans (hb.mono (by have := h.1.size; omega)))
 have K2 : Hid (∀ w1 w2 : World, (Below (w.heap.size + 2) W0 w1 ∧ w1.cell? ⟨w.heap.size, 0, none⟩ = some (.bool na) ∧ w1.cell? ⟨w.heap.size, 1, none⟩ = some (.slice ao la ca) ∧ w1.cell? ⟨w.heap.size + 1, 1, none⟩ = some (.slice bo lb cb)) → Below (w.heap.size + 2) w1 w2 → (Below (w.heap.size + 2) W0 w2 ∧ w2.cell? ⟨w.heap.size, 0, none⟩ = some (.bool na) ∧ w2.cell? ⟨w.heap.size, 1, none⟩ = some (.slice ao la ca) ∧ w2.cell? ⟨w.heap.size + 1, 1, none⟩ = some (.slice bo lb cb))) := fun w1 w2 h hb => KS.out _ (h.1.trans hb)
 have KF : Hid ((∀ j, W0.frozen? ⟨w.heap.size + 1 + 1, j, none⟩ = false) ∧ W0.cell? ⟨w.heap.size + 1 + 1, 0, none⟩ = some (.bool false) ∧ W0.cell? ⟨w.heap.size + 1 + 1, 1, none⟩ = some (.slice none 0 0)) := ⟨f0, c3, c4⟩
 clear f0 c3 c4 c0 c1 c2
 go_enter Tryz.func103, Tryz.ntmps103
 go_wp2
 rw [← hW0]
 clear hW0
 go_region_held3 (fun w' => Below (w.heap.size + 2) W0 w' ∧ w'.cell? ⟨w.heap.size, 0, none⟩ = some (.bool na) ∧ w'.cell? ⟨w.heap.size, 1, none⟩ = some (.slice ao la ca) ∧ w'.cell? ⟨w.heap.size + 1, 1, none⟩ = some (.slice bo lb cb))
  (first
   | exact KS.out _ (Below.refl _ _).drew
   | exact K1.out _ _ (by assumption) (by assumption)
   | exact K2.out _ _ (by assumption) (((Below.refl _ _).setCell (by show _ ≤ w.heap.size + 1 + 1; omega) _).setCell (by show _ ≤ w.heap.size + 1 + 1; omega) _))
  (first
   | (go_at_call 113; refine (plus_any ao bo la ca lb cb a.natAbs b.natAbs _ (hx0.row.later (Below.refl _ _).drew) (hy0.row.later (Below.refl _ _).drew) hl hl').mono ?_; rintro e w1 ⟨ao1, l1, c1, rfl, ho1, hb1⟩; have hlen1 : l1 ≤ 4611686018427387904 := by (rw [ho1.row.hlen]; have := mag_len_add a.natAbs b.natAbs; rw [← hx0.row.hlen, ← hy0.row.hlen] at this; omega))
   | (go_at_call 84; refine (signed_any na ao1 l1 c1 _ hlen1).mono ?_; rintro e w2 ⟨rfl, hb2⟩; have hbA : Below W0.heap.size W0 w2 := (((Below.refl _ _).drew).trans hb1).trans (hb2.mono hb1.size); have g3 : w2.cell? ⟨w.heap.size + 1 + 1, 0, none⟩ = some (.bool false) := (hbA.cell (p := ⟨w.heap.size + 1 + 1, 0, none⟩) (by (show w.heap.size + 1 + 1 < _; omega))).trans KF.out.2.1; have g4 : w2.cell? ⟨w.heap.size + 1 + 1, 1, none⟩ = some (.slice none 0 0) := (hbA.cell (p := ⟨w.heap.size + 1 + 1, 1, none⟩) (by (show w.heap.size + 1 + 1 < _; omega))).trans KF.out.2.2; have g5 : ∀ j, w2.frozen? ⟨w.heap.size + 1 + 1, j, none⟩ = false := fun j => (hbA.frozen (p := ⟨w.heap.size + 1 + 1, j, none⟩) (by (show w.heap.size + 1 + 1 < _; omega))).trans (KF.out.1 j)))
 go_wp2
 exact bodyPost_ret (v := .agg #[.bool (na && decide (0 < l1)), .slice ao1 l1 c1]) (by simp [results, Tryz.results103, go_sem, g3, g4]) rfl
  (NewInt.ret (((ho1.later hb2).setOther (a := ⟨w.heap.size + 1 + 1, 0, none⟩) (by show _ < W0.heap.size; rw [hsz]; show w.heap.size + 1 + 1 < _; omega) _).setOther (a := ⟨w.heap.size + 1 + 1, 1, none⟩) (by show _ < W0.heap.size; rw [hsz]; show w.heap.size + 1 + 1 < _; omega) _)
   (by show _ ≤ W0.heap.size; omega) (sgn_add_same hx.sg hy.sg)
   ((((hbW.trans ((Below.refl W0.heap.size W0).drew.mono (by omega))).trans (hb1.mono (by show _ ≤ W0.heap.size; omega))).trans (hb2.mono (by have := hb1.size; have h : W0.heap.size ≤ w1.heap.size := this; omega))).setCell (by show _ ≤ w.heap.size + 1 + 1; omega) _ |>.setCell (by show _ ≤ w.heap.size + 1 + 1; omega) _))
theorem sum_ge (na nb : Bool) (ao bo : Option Addr) (la ca lb cb : Nat) (a b : Int) (w : World) (hx : IntAt w na ao la ca a) (hy : IntAt w nb bo lb cb b) (hl : la ≤ 4294967296) (hl' : lb ≤ 4294967296) (hs : na ≠ nb) (hle : b.natAbs ≤ a.natAbs) :
  Calls Tryz.prog 103 #[.agg #[.bool na, .slice ao la ca], .agg #[.bool nb, .slice bo lb cb]] w fun e w' => NewInt w w' e (a + b) := by
 have hs' : (na == nb) = false := by simpa using hs
 obtain ⟨cc, hcc, hcp⟩ := cmpI_ge (a := (a.natAbs : Int)) (b := (b.natAbs : Int)) (by omega)
 have HC : Hid (cmpI (a.natAbs : Int) (b.natAbs : Int) = cc ∧ b.natAbs ≤ a.natAbs) := ⟨hcc, hle⟩
 clear hcc hle
 obtain ⟨W0, hW0⟩ : ∃ W0, W0 = ((w.alloc (.cells #[.bool na, .slice ao la ca] 28)).alloc (.cells #[.bool nb, .slice bo lb cb] 28)).alloc (.cells #[.bool false, .slice none 0 0] 28) := ⟨_, rfl⟩
 have hbW : Below w.heap.size w W0 := by subst hW0; exact (((Below.refl _ _).alloc (Nat.le_refl _) _).alloc (by simp) _).alloc (by simp; omega) _
 have hx0 := hx.later hbW
 have hy0 := hy.later hbW
 have hsz : W0.heap.size = w.heap.size + 3 := by subst hW0; simp
 have c0 : W0.cell? ⟨w.heap.size, 0, none⟩ = some (.bool na) := by subst hW0; simp [go_sem]
 have c1 : W0.cell? ⟨w.heap.size, 1, none⟩ = some (.slice ao la ca) := by subst hW0; simp [go_sem]
 have c2 : W0.cell? ⟨w.heap.size + 1, 1, none⟩ = some (.slice bo lb cb) := by subst hW0; simp [go_sem]
 have c3 : W0.cell? ⟨w.heap.size + 1 + 1, 0, none⟩ = some (.bool false) := by subst hW0; simp [go_sem]
 have c4 : W0.cell? ⟨w.heap.size + 1 + 1, 1, none⟩ = some (.slice none 0 0) := by subst hW0; simp [go_sem]
 have f0 : ∀ j, W0.frozen? ⟨w.heap.size + 1 + 1, j, none⟩ = false := by intro j; subst hW0; simp [go_sem]
 have KS : Hid (∀ w' : World, Below (w.heap.size + 2) W0 w' → (Below (w.heap.size + 2) W0 w' ∧ w'.cell? ⟨w.heap.size, 0, none⟩ = some (.bool na) ∧ w'.cell? ⟨w.heap.size, 1, none⟩ = some (.slice ao la ca) ∧ w'.cell? ⟨w.heap.size + 1, 1, none⟩ = some (.slice bo lb cb))) := fun w' h => ⟨h, (h.cell (p := ⟨w.heap.size, 0, none⟩) (by show w.heap.size < _; omega)).trans c0, (h.cell (p := ⟨w.heap.size, 1, none⟩) (by show w.heap.size < _; omega)).trans c1, (h.cell (p := ⟨w.heap.size + 1, 1, none⟩) (by show w.heap.size + 1 < _; omega)).trans c2⟩
 have K1 : Hid (∀ w1 w2 : World, (Below (w.heap.size + 2) W0 w1 ∧ w1.cell? ⟨w.heap.size, 0, none⟩ = some (.bool na) ∧ w1.cell? ⟨w.heap.size, 1, none⟩ = some (.slice ao la ca) ∧ w1.cell? ⟨w.heap.size + 1, 1, none⟩ = some (.slice bo lb cb)) → Below w1.heap.size w1 w2 → (Below (w.heap.size + 2) W0 w2 ∧ w2.cell? ⟨w.heap.size, 0, none⟩ = some (.bool na) ∧ w2.cell? ⟨w.heap.size, 1, none⟩ = some (.slice ao la ca) ∧ w2.cell? ⟨w.heap.size + 1, 1, none⟩ = some (.slice bo lb cb))) := fun w1 w2 h hb => KS.out _ (h.1.trans (hb.mono (by have := h.1.size; omega)))
 have K2 : Hid (∀ w1 w2 : World, (Below (w.heap.size + 2) W0 w1 ∧ w1.cell? ⟨w.heap.size, 0, none⟩ = some (.bool na) ∧ w1.cell? ⟨w.heap.size, 1, none⟩ = some (.slice ao la ca) ∧ w1.cell? ⟨w.heap.size + 1, 1, none⟩ = some (.slice bo lb cb)) → Below (w.heap.size + 2) w1 w2 → (Below (w.heap.size + 2) W0 w2 ∧ w2.cell? ⟨w.heap.size, 0, none⟩ = some (.bool na) ∧ w2.cell? ⟨w.heap.size, 1, none⟩ = some (.slice ao la ca) ∧ w2.cell? ⟨w.heap.size + 1, 1, none⟩ = some (.slice bo lb cb))) := fun w1 w2 h hb => KS.out _ (h.1.trans hb)
 have KF : Hid ((∀ j, W0.frozen? ⟨w.heap.size + 1 + 1, j, none⟩ = false) ∧ W0.cell? ⟨w.heap.size + 1 + 1, 0, none⟩ = some (.bool false) ∧ W0.cell? ⟨w.heap.size + 1 + 1, 1, none⟩ = some (.slice none 0 0)) := ⟨f0, c3, c4⟩
 clear f0 c3 c4 c0 c1 c2
 go_enter Tryz.func103, Tryz.ntmps103
 go_wp2_with (go_at_call 115; refine (compare_at ao bo la ca lb cb a.natAbs b.natAbs _ (hx0.row.later (by subst hW0; exact Below.refl _ _)) (hy0.row.later (by subst hW0; exact Below.refl _ _)) hl hl' cc HC.out.1).mono ?_; rintro e w0 ⟨rfl, hb0⟩; rw [← hW0] at hb0)
 have hbX : Below (w.heap.size + 2) W0 w0 := hb0.mono (by omega)
 have hs0 := hb0.size
 clear hW0
 go_region_held3 (fun w' => Below (w.heap.size + 2) W0 w' ∧ w'.cell? ⟨w.heap.size, 0, none⟩ = some (.bool na) ∧ w'.cell? ⟨w.heap.size, 1, none⟩ = some (.slice ao la ca) ∧ w'.cell? ⟨w.heap.size + 1, 1, none⟩ = some (.slice bo lb cb))
  (first
   | exact KS.out _ (Below.drew hbX)
   | exact K1.out _ _ (by assumption) (by assumption)
   | exact K2.out _ _ (by assumption) (((Below.refl _ _).setCell (by show _ ≤ w.heap.size + 1 + 1; omega) _).setCell (by show _ ≤ w.heap.size + 1 + 1; omega) _))
  (first
   | (go_at_call 114; refine (minus_any ao bo la ca lb cb a.natAbs b.natAbs _ (hx0.row.later hb0.drew) (hy0.row.later hb0.drew) hl HC.out.2).mono ?_; rintro e w1 ⟨ao1, l1, c1, rfl, ho1, hb1⟩; have hlen1 : l1 ≤ 4611686018427387904 := by (rw [ho1.row.hlen]; have := mag_len_mono (Nat.sub_le a.natAbs b.natAbs); rw [← hx0.row.hlen] at this; omega))
   | (go_at_call 84; refine (signed_any na ao1 l1 c1 _ hlen1).mono ?_; rintro e w2 ⟨rfl, hb2⟩; have hbA : Below W0.heap.size W0 w2 := ((hb0.drew).trans (hb1.mono hs0)).trans (hb2.mono (Nat.le_trans hs0 hb1.size)); have g3 : w2.cell? ⟨w.heap.size + 1 + 1, 0, none⟩ = some (.bool false) := (hbA.cell (p := ⟨w.heap.size + 1 + 1, 0, none⟩) (by (show w.heap.size + 1 + 1 < _; omega))).trans KF.out.2.1; have g4 : w2.cell? ⟨w.heap.size + 1 + 1, 1, none⟩ = some (.slice none 0 0) := (hbA.cell (p := ⟨w.heap.size + 1 + 1, 1, none⟩) (by (show w.heap.size + 1 + 1 < _; omega))).trans KF.out.2.2; have g5 : ∀ j, w2.frozen? ⟨w.heap.size + 1 + 1, j, none⟩ = false := fun j => (hbA.frozen (p := ⟨w.heap.size + 1 + 1, j, none⟩) (by (show w.heap.size + 1 + 1 < _; omega))).trans (KF.out.1 j)))
 go_wp2
 exact bodyPost_ret (v := .agg #[.bool (na && decide (0 < l1)), .slice ao1 l1 c1]) (by simp [results, Tryz.results103, go_sem, g3, g4]) rfl
  (NewInt.ret (((ho1.later hb2).setOther (a := ⟨w.heap.size + 1 + 1, 0, none⟩) (by show w.heap.size + 1 + 1 < w0.heap.size; omega) _).setOther (a := ⟨w.heap.size + 1 + 1, 1, none⟩) (by show w.heap.size + 1 + 1 < w0.heap.size; omega) _)
   (by show _ ≤ w0.heap.size; omega) (sgn_add_diff hx.sg hy.sg hs HC.out.2)
   ((hbW.trans (hbA.mono (by omega))).setCell (by show _ ≤ w.heap.size + 1 + 1; omega) _ |>.setCell (by show _ ≤ w.heap.size + 1 + 1; omega) _))
theorem sum_lt (na nb : Bool) (ao bo : Option Addr) (la ca lb cb : Nat) (a b : Int) (w : World) (hx : IntAt w na ao la ca a) (hy : IntAt w nb bo lb cb b) (hl : la ≤ 4294967296) (hl' : lb ≤ 4294967296) (hs : na ≠ nb) (hlt : a.natAbs < b.natAbs) :
  Calls Tryz.prog 103 #[.agg #[.bool na, .slice ao la ca], .agg #[.bool nb, .slice bo lb cb]] w fun e w' => NewInt w w' e (a + b) := by
 have hs' : (na == nb) = false := by simpa using hs
 have HC : Hid (cmpI (a.natAbs : Int) (b.natAbs : Int) = -1 ∧ a.natAbs < b.natAbs) := ⟨cmpI_lt (by omega), hlt⟩
 clear hlt
 obtain ⟨Wi, hWi⟩ : ∃ Wi, Wi = ((w.alloc (.cells #[.bool na, .slice ao la ca] 28)).alloc (.cells #[.bool nb, .slice bo lb cb] 28)).alloc (.cells #[.bool false, .slice none 0 0] 28) := ⟨_, rfl⟩
 have hbW : Below w.heap.size w Wi := by subst hWi; exact (((Below.refl _ _).alloc (Nat.le_refl _) _).alloc (by simp) _).alloc (by simp; omega) _
 have hx0 := hx.later hbW
 have hy0 := hy.later hbW
 have hszi : Wi.heap.size = w.heap.size + 3 := by subst hWi; simp
 have i0 : Wi.cell? ⟨w.heap.size, 0, none⟩ = some (.bool na) := by subst hWi; simp [go_sem]
 have i1 : Wi.cell? ⟨w.heap.size, 1, none⟩ = some (.slice ao la ca) := by subst hWi; simp [go_sem]
 have i2 : Wi.cell? ⟨w.heap.size + 1, 0, none⟩ = some (.bool nb) := by subst hWi; simp [go_sem]
 have i3 : Wi.cell? ⟨w.heap.size + 1, 1, none⟩ = some (.slice bo lb cb) := by subst hWi; simp [go_sem]
 have i4 : Wi.cell? ⟨w.heap.size + 1 + 1, 0, none⟩ = some (.bool false) := by subst hWi; simp [go_sem]
 have i5 : Wi.cell? ⟨w.heap.size + 1 + 1, 1, none⟩ = some (.slice none 0 0) := by subst hWi; simp [go_sem]
 have i6 : ∀ b j, w.heap.size ≤ b → b < w.heap.size + 3 → Wi.frozen? ⟨b, j, none⟩ = false := by
  intro b j h1 h2
  rcases (show b = w.heap.size ∨ b = w.heap.size + 1 ∨ b = w.heap.size + 1 + 1 by omega) with rfl | rfl | rfl <;> subst hWi <;> simp [go_sem]
 have HI : Hid ((Wi.cell? ⟨w.heap.size, 0, none⟩ = some (.bool na) ∧ Wi.cell? ⟨w.heap.size, 1, none⟩ = some (.slice ao la ca) ∧ Wi.cell? ⟨w.heap.size + 1, 0, none⟩ = some (.bool nb) ∧ Wi.cell? ⟨w.heap.size + 1, 1, none⟩ = some (.slice bo lb cb)) ∧ Wi.cell? ⟨w.heap.size + 1 + 1, 0, none⟩ = some (.bool false) ∧ Wi.cell? ⟨w.heap.size + 1 + 1, 1, none⟩ = some (.slice none 0 0) ∧ ∀ b j, w.heap.size ≤ b → b < w.heap.size + 3 → Wi.frozen? ⟨b, j, none⟩ = false) := ⟨⟨i0, i1, i2, i3⟩, i4, i5, i6⟩
 clear i0 i1 i2 i3 i4 i5 i6
 go_enter Tryz.func103, Tryz.ntmps103
 go_wp2_with (go_at_call 115; refine (compare_at ao bo la ca lb cb a.natAbs b.natAbs _ (hx0.row.later (by subst hWi; exact Below.refl _ _)) (hy0.row.later (by subst hWi; exact Below.refl _ _)) hl hl' (-1) HC.out.1).mono ?_; rintro e w0 ⟨rfl, hb0⟩; rw [← hWi] at hb0; have d0 : w0.cell? ⟨w.heap.size, 0, none⟩ = some (.bool na) := (hb0.cell (p := ⟨w.heap.size, 0, none⟩) (by (show w.heap.size < _; omega))).trans HI.out.1.1; have d1 : w0.cell? ⟨w.heap.size, 1, none⟩ = some (.slice ao la ca) := (hb0.cell (p := ⟨w.heap.size, 1, none⟩) (by (show w.heap.size < _; omega))).trans HI.out.1.2.1; have d2 : w0.cell? ⟨w.heap.size + 1, 0, none⟩ = some (.bool nb) := (hb0.cell (p := ⟨w.heap.size + 1, 0, none⟩) (by (show w.heap.size + 1 < _; omega))).trans HI.out.1.2.2.1; have d3 : w0.cell? ⟨w.heap.size + 1, 1, none⟩ = some (.slice bo lb cb) := (hb0.cell (p := ⟨w.heap.size + 1, 1, none⟩) (by (show w.heap.size + 1 < _; omega))).trans HI.out.1.2.2.2; have d4 : ∀ j, w0.frozen? ⟨w.heap.size, j, none⟩ = false := fun j => (hb0.frozen (p := ⟨w.heap.size, j, none⟩) (by (show w.heap.size < _; omega))).trans (HI.out.2.2.2 _ j (by omega) (by omega)); have d5 : ∀ j, w0.frozen? ⟨w.heap.size + 1, j, none⟩ = false := fun j => (hb0.frozen (p := ⟨w.heap.size + 1, j, none⟩) (by (show w.heap.size + 1 < _; omega))).trans (HI.out.2.2.2 _ j (by omega) (by omega)))
 have hs0 := hb0.size
 obtain ⟨W0, hW0⟩ : ∃ W0, W0 = (((w0.setCell ⟨w.heap.size, 0, none⟩ (.bool nb)).setCell ⟨w.heap.size, 1, none⟩ (.slice bo lb cb)).setCell ⟨w.heap.size + 1, 0, none⟩ (.bool na)).setCell ⟨w.heap.size + 1, 1, none⟩ (.slice ao la ca) := ⟨_, rfl⟩
 rw [← hW0]
 have hbZ : Below w.heap.size w W0 := by
  rw [hW0]
  exact (((((hbW.trans (hb0.mono (by omega))).setCell (by show _ ≤ w.heap.size; omega) _).setCell (by show _ ≤ w.heap.size; omega) _).setCell (by show _ ≤ w.heap.size + 1; omega) _).setCell (by show _ ≤ w.heap.size + 1; omega) _)
 have hsz : w.heap.size + 3 ≤ W0.heap.size := by rw [hW0]; simp; omega
 have c0 : W0.cell? ⟨w.heap.size, 0, none⟩ = some (.bool nb) := by rw [hW0]; simp [go_sem, d0, d1, d2, d3]
 have c1 : W0.cell? ⟨w.heap.size, 1, none⟩ = some (.slice bo lb cb) := by rw [hW0]; simp [go_sem, d0, d1, d2, d3]
 have c2 : W0.cell? ⟨w.heap.size + 1, 1, none⟩ = some (.slice ao la ca) := by rw [hW0]; simp [go_sem, d0, d1, d2, d3]
 have c3 : W0.cell? ⟨w.heap.size + 1 + 1, 0, none⟩ = some (.bool false) := by
  rw [hW0]; simp [go_sem]; exact (hb0.cell (p := ⟨w.heap.size + 1 + 1, 0, none⟩) (by show w.heap.size + 1 + 1 < _; omega)).trans HI.out.2.1
 have c4 : W0.cell? ⟨w.heap.size + 1 + 1, 1, none⟩ = some (.slice none 0 0) := by
  rw [hW0]; simp [go_sem]; exact (hb0.cell (p := ⟨w.heap.size + 1 + 1, 1, none⟩) (by show w.heap.size + 1 + 1 < _; omega)).trans HI.out.2.2.1
 have f0 : ∀ j, W0.frozen? ⟨w.heap.size + 1 + 1, j, none⟩ = false := by
  intro j; rw [hW0]; simp [go_sem]; exact (hb0.frozen (p := ⟨w.heap.size + 1 + 1, j, none⟩) (by show w.heap.size + 1 + 1 < _; omega)).trans (HI.out.2.2.2 _ j (by omega) (by omega))
 clear hW0 hWi d0 d1 d2 d3 d4 d5
 have KS : Hid (∀ w' : World, Below (w.heap.size + 2) W0 w' → (Below (w.heap.size + 2) W0 w' ∧ w'.cell? ⟨w.heap.size, 0, none⟩ = some (.bool nb) ∧ w'.cell? ⟨w.heap.size, 1, none⟩ = some (.slice bo lb cb) ∧ w'.cell? ⟨w.heap.size + 1, 1, none⟩ = some (.slice ao la ca))) := fun w' h => ⟨h, (h.cell (p := ⟨w.heap.size, 0, none⟩) (by show w.heap.size < _; omega)).trans c0, (h.cell (p := ⟨w.heap.size, 1, none⟩) (by show w.heap.size < _; omega)).trans c1, (h.cell (p := ⟨w.heap.size + 1, 1, none⟩) (by show w.heap.size + 1 < _; omega)).trans c2⟩
 have K1 : Hid (∀ w1 w2 : World, (Below (w.heap.size + 2) W0 w1 ∧ w1.cell? ⟨w.heap.size, 0, none⟩ = some (.bool nb) ∧ w1.cell? ⟨w.heap.size, 1, none⟩ = some (.slice bo lb cb) ∧ w1.cell? ⟨w.heap.size + 1, 1, none⟩ = some (.slice ao la ca)) → Below w1.heap.size w1 w2 → (Below (w.heap.size + 2) W0 w2 ∧ w2.cell? ⟨w.heap.size, 0, none⟩ = some (.bool nb) ∧ w2.cell? ⟨w.heap.size, 1, none⟩ = some (.slice bo lb cb) ∧ w2.cell? ⟨w.heap.size + 1, 1, none⟩ = some (.slice ao la ca))) := fun w1 w2 h hb => KS.out _ (h.1.trans (hb.mono (by have := h.1.size; omega)))
 have K2 : Hid (∀ w1 w2 : World, (Below (w.heap.size + 2) W0 w1 ∧ w1.cell? ⟨w.heap.size, 0, none⟩ = some (.bool nb) ∧ w1.cell? ⟨w.heap.size, 1, none⟩ = some (.slice bo lb cb) ∧ w1.cell? ⟨w.heap.size + 1, 1, none⟩ = some (.slice ao la ca)) → Below (w.heap.size + 2) w1 w2 → (Below (w.heap.size + 2) W0 w2 ∧ w2.cell? ⟨w.heap.size, 0, none⟩ = some (.bool nb) ∧ w2.cell? ⟨w.heap.size, 1, none⟩ = some (.slice bo lb cb) ∧ w2.cell? ⟨w.heap.size + 1, 1, none⟩ = some (.slice ao la ca))) := fun w1 w2 h hb => KS.out _ (h.1.trans hb)
 have KF : Hid ((∀ j, W0.frozen? ⟨w.heap.size + 1 + 1, j, none⟩ = false) ∧ W0.cell? ⟨w.heap.size + 1 + 1, 0, none⟩ = some (.bool false) ∧ W0.cell? ⟨w.heap.size + 1 + 1, 1, none⟩ = some (.slice none 0 0)) := ⟨f0, c3, c4⟩
 clear c0 c1 c2 c3 c4 f0
 have hxZ := (hx.later hbZ).row
 have hyZ := (hy.later hbZ).row
 go_region_held3 (fun w' => Below (w.heap.size + 2) W0 w' ∧ w'.cell? ⟨w.heap.size, 0, none⟩ = some (.bool nb) ∧ w'.cell? ⟨w.heap.size, 1, none⟩ = some (.slice bo lb cb) ∧ w'.cell? ⟨w.heap.size + 1, 1, none⟩ = some (.slice ao la ca))
  (first
   | exact KS.out _ (Below.refl _ _).drew
   | exact K1.out _ _ (by assumption) (by assumption)
   | exact K2.out _ _ (by assumption) (((Below.refl _ _).setCell (by show _ ≤ w.heap.size + 1 + 1; omega) _).setCell (by show _ ≤ w.heap.size + 1 + 1; omega) _))
  (first
   | (go_at_call 114; refine (minus_any bo ao lb cb la ca b.natAbs a.natAbs _ (hyZ.later (Below.refl _ _).drew) (hxZ.later (Below.refl _ _).drew) hl' (Nat.le_of_lt HC.out.2)).mono ?_; rintro e w1 ⟨ao1, l1, c1, rfl, ho1, hb1⟩; have hlen1 : l1 ≤ 4611686018427387904 := by (rw [ho1.row.hlen]; have := mag_len_mono (Nat.sub_le b.natAbs a.natAbs); rw [← hy0.row.hlen] at this; omega))
   | (go_at_call 84; refine (signed_any nb ao1 l1 c1 _ hlen1).mono ?_; rintro e w2 ⟨rfl, hb2⟩; have hbA : Below W0.heap.size W0 w2 := (((Below.refl _ _).drew).trans hb1).trans (hb2.mono hb1.size); have g3 : w2.cell? ⟨w.heap.size + 1 + 1, 0, none⟩ = some (.bool false) := (hbA.cell (p := ⟨w.heap.size + 1 + 1, 0, none⟩) (by (show w.heap.size + 1 + 1 < _; omega))).trans KF.out.2.1; have g4 : w2.cell? ⟨w.heap.size + 1 + 1, 1, none⟩ = some (.slice none 0 0) := (hbA.cell (p := ⟨w.heap.size + 1 + 1, 1, none⟩) (by (show w.heap.size + 1 + 1 < _; omega))).trans KF.out.2.2; have g5 : ∀ j, w2.frozen? ⟨w.heap.size + 1 + 1, j, none⟩ = false := fun j => (hbA.frozen (p := ⟨w.heap.size + 1 + 1, j, none⟩) (by (show w.heap.size + 1 + 1 < _; omega))).trans (KF.out.1 j)))
 go_wp2
 exact bodyPost_ret (v := .agg #[.bool (nb && decide (0 < l1)), .slice ao1 l1 c1]) (by simp [results, Tryz.results103, go_sem, g3, g4]) rfl
  (NewInt.ret (((ho1.later hb2).setOther (a := ⟨w.heap.size + 1 + 1, 0, none⟩) (by show w.heap.size + 1 + 1 < W0.heap.size; omega) _).setOther (a := ⟨w.heap.size + 1 + 1, 1, none⟩) (by show w.heap.size + 1 + 1 < W0.heap.size; omega) _)
   (by show _ ≤ W0.heap.size; omega) (by rw [Int.add_comm]; exact sgn_add_diff hy.sg hx.sg (Ne.symm hs) (Nat.le_of_lt HC.out.2))
   ((hbZ.trans (hbA.mono (by omega))).setCell (by show _ ≤ w.heap.size + 1 + 1; omega) _ |>.setCell (by show _ ≤ w.heap.size + 1 + 1; omega) _))
theorem sum_any (na nb : Bool) (ao bo : Option Addr) (la ca lb cb : Nat) (a b : Int) (w : World) (hx : IntAt w na ao la ca a) (hy : IntAt w nb bo lb cb b) (hl : la ≤ 4294967296) (hl' : lb ≤ 4294967296) :
  Calls Tryz.prog 103 #[.agg #[.bool na, .slice ao la ca], .agg #[.bool nb, .slice bo lb cb]] w fun e w' => NewInt w w' e (a + b) := by
 by_cases hs : na = nb
 ·
  exact sum_same na nb ao bo la ca lb cb a b w hx hy hl hl' hs
 ·
  by_cases hle : b.natAbs ≤ a.natAbs
  ·
   exact sum_ge na nb ao bo la ca lb cb a b w hx hy hl hl' hs hle
  ·
   exact sum_lt na nb ao bo la ca lb cb a b w hx hy hl hl' hs (by omega)
theorem mayB_len {neg : Bool} {zs : List Int} {len : Nat} (hl : len = zs.length) (hp : 0 < len) : mayB neg zs = (dig zs (len - 1) != 0) := by
 subst hl; exact mayB_last (List.length_pos_iff.1 hp)
def nmayB (zs : List Int) : Bool := mayB false zs
theorem nmayB_len {zs : List Int} {len : Nat} (hl : len = zs.length) (hp : 0 < len) : nmayB zs = (dig zs (len - 1) != 0) := mayB_len hl hp
theorem check_any (neg : Bool) (ao : Option Addr) (len cap : Nat) (zs : List Int) (w : World) (hr : RowAt w .u64 ao len cap zs) (hl : len ≤ 4611686018427387904) :
  Calls Tryz.prog 52 #[.agg #[.bool neg, .slice ao len cap]] w fun e w' => e = .returned (.int .i64 (if mayB neg zs then 0 else 10)) ∧ Below w.heap.size w w' := by
 by_cases hp : 0 < len
 ·
  obtain ⟨b, off, rfl, hlt, hc⟩ := hr.get hp
  have hcell := hc (len - 1) (by omega)
  rw [mayB_len hr.hlen hp]
  clear hc hr
  obtain ⟨z, hz⟩ : ∃ z, dig zs (len - 1) = z := ⟨_, rfl⟩
  rw [hz] at hcell ⊢
  clear hz
  by_cases h0 : z = 0
  ·
   subst h0
   go_enter Tryz.func52, Tryz.ntmps52
   go_wp2
   go_ret
   exact ⟨rfl, (Below.refl _ _).alloc (Nat.le_refl _) _⟩
  ·
   have h1 : (z == 0) = false := by simpa using h0
   have h2 : (z != 0) = true := by simpa using h0
   rw [h2]
   go_enter Tryz.func52, Tryz.ntmps52
   go_wp2
   go_ret
   exact ⟨rfl, (Below.refl _ _).alloc (Nat.le_refl _) _⟩
 ·
  obtain rfl : len = 0 := by omega
  obtain rfl : zs = [] := List.eq_nil_of_length_eq_zero hr.hlen.symm
  cases neg
  all_goals
   go_enter Tryz.func52, Tryz.ntmps52
   go_wp2
   go_ret
   exact ⟨rfl, (Below.refl _ _).alloc (Nat.le_refl _) _⟩
theorem nmay_any (ao : Option Addr) (len cap : Nat) (zs : List Int) (w : World) (hr : RowAt w .u64 ao len cap zs) (hl : len ≤ 4611686018427387904) :
  Calls Tryz.prog 24 #[.slice ao len cap] w fun e w' => e = .returned (.bool (nmayB zs)) ∧ w' = w := by
 by_cases hp : 0 < len
 ·
  obtain ⟨b, off, rfl, hlt, hc⟩ := hr.get hp
  have hcell := hc (len - 1) (by omega)
  rw [nmayB_len hr.hlen hp]
  clear hc hr
  obtain ⟨z, hz⟩ : ∃ z, dig zs (len - 1) = z := ⟨_, rfl⟩
  rw [hz] at hcell ⊢
  clear hz
  have hl0 : ((len : Int) == 0) = false := by simp; omega
  go_enter Tryz.func24, Tryz.ntmps24
  go_wp2
  go_ret
  exact ⟨rfl, rfl⟩
 ·
  obtain rfl : len = 0 := by omega
  obtain rfl : zs = [] := List.eq_nil_of_length_eq_zero hr.hlen.symm
  go_enter Tryz.func24, Tryz.ntmps24
  go_wp2
  go_ret
  exact ⟨rfl, rfl⟩
theorem bnext {w W w' : World} (h : Below w.heap.size w W) (k : Below W.heap.size W w') : Below w.heap.size w w' := h.trans (k.mono h.size)
theorem may_any (neg : Bool) (ao : Option Addr) (len cap : Nat) (zs : List Int) (w : World) (hr : RowAt w .u64 ao len cap zs) (hl : len ≤ 4611686018427387904) :
  Calls Tryz.prog 23 #[.agg #[.bool neg, .slice ao len cap]] w fun e w' => e = .returned (.bool (mayB neg zs)) ∧ Below w.heap.size w w' := by
 have hn : Hid (mayB neg zs = (nmayB zs && (decide (0 < len) || !neg))) := by
  show _ = _
  by_cases hp : 0 < len
  ·
   rw [mayB_len hr.hlen hp, nmayB_len hr.hlen hp, decide_eq_true hp]; simp
  ·
   obtain rfl : zs = [] := List.eq_nil_of_length_eq_zero (by have := hr.hlen; omega)
   rw [decide_eq_false hp]; cases neg <;> rfl
 obtain ⟨m, hm⟩ : ∃ m, nmayB zs = m := ⟨_, rfl⟩
 have hcon := nmay_any ao len cap zs (w.alloc (.cells #[.bool neg, .slice ao len cap] 28)) (hr.later ((Below.refl _ _).alloc (Nat.le_refl _) _)) hl
 rw [hm] at hcon
 rw [hn.out, hm]
 clear hn hm hr
 cases m
 ·
  go_enter Tryz.func23, Tryz.ntmps23
  go_wp2_with (go_at_call 24; refine hcon.mono ?_; rintro e w' ⟨rfl, rfl⟩)
  go_ret
  exact ⟨rfl, (Below.refl _ _).alloc (Nat.le_refl _) _⟩
 ·
  by_cases hp : 0 < len
  ·
   rw [decide_eq_true hp]
   go_enter Tryz.func23, Tryz.ntmps23
   go_wp2_with (go_at_call 24; refine hcon.mono ?_; rintro e w' ⟨rfl, rfl⟩)
   go_ret
   exact ⟨rfl, (Below.refl _ _).alloc (Nat.le_refl _) _⟩
  ·
   rw [decide_eq_false hp]
   obtain rfl : len = 0 := by omega
   cases neg
   all_goals
    go_enter Tryz.func23, Tryz.ntmps23
    go_wp2_with (go_at_call 24; refine hcon.mono ?_; rintro e w' ⟨rfl, rfl⟩)
    go_ret
    exact ⟨rfl, (Below.refl _ _).alloc (Nat.le_refl _) _⟩
theorem long_any (neg : Bool) (ao : Option Addr) (len cap : Nat) (n : Int) (w : World) :
  Calls Tryz.prog 20 #[.agg #[.bool neg, .slice ao len cap], .int .i64 n] w fun e w' => e = .returned (.bool (decide (n < (len : Int)))) ∧ Below w.heap.size w w' := by
 go_enter Tryz.func20, Tryz.ntmps20
 go_wp2
 go_ret
 exact ⟨rfl, (Below.refl _ _).alloc (Nat.le_refl _) _⟩
theorem made_any (neg : Bool) (ao : Option Addr) (len cap : Nat) (w : World) (hl : len ≤ 4611686018427387904) :
  Calls Tryz.prog 65 #[.bool neg, .slice ao len cap] w fun e w' => e = .returned (.agg #[.bool (neg && decide (0 < len)), .slice ao len cap]) ∧ Below w.heap.size w w' := by
 cases neg
 ·
  go_enter Tryz.func65, Tryz.ntmps65
  go_wp2
  exact bodyPost_ret (v := .agg #[.bool false, .slice ao len cap]) (by simp [results, Tryz.results65, go_sem]) rfl ⟨rfl, (Below.refl _ _).alloc (Nat.le_refl _) _⟩
 ·
  by_cases h : 0 < len
  ·
   rw [decide_eq_true h]
   go_enter Tryz.func65, Tryz.ntmps65
   go_wp2
   exact bodyPost_ret (v := .agg #[.bool true, .slice ao len cap]) (by simp [results, Tryz.results65, go_sem]) rfl ⟨rfl, (Below.refl _ _).alloc (Nat.le_refl _) _⟩
  ·
   rw [decide_eq_false h]
   go_enter Tryz.func65, Tryz.ntmps65
   go_wp2
   exact bodyPost_ret (v := .agg #[.bool false, .slice ao len cap]) (by simp [results, Tryz.results65, go_sem]) rfl ⟨rfl, (Below.refl _ _).alloc (Nat.le_refl _) _⟩
theorem eqint_any (na nb : Bool) (ao bo : Option Addr) (la ca lb cb : Nat) (x y : List Int) (w : World) (hx : RowAt w .u64 ao la ca x) (hy : RowAt w .u64 bo lb cb y) (hl : la ≤ 4611686018427387904) :
  Calls Tryz.prog 32 #[.agg #[.bool na, .slice ao la ca], .agg #[.bool nb, .slice bo lb cb]] w fun e w' => e = .returned (.bool (decide (na = nb) && decide (x = y))) ∧ Below w.heap.size w w' := by
 by_cases hs : na = nb
 ·
  subst hs
  rw [decide_eq_true rfl, Bool.true_and]
  have hbW : Below w.heap.size w ((w.alloc (.cells #[.bool na, .slice ao la ca] 28)).alloc (.cells #[.bool na, .slice bo lb cb] 28)) := ((Below.refl _ _).alloc (Nat.le_refl _) _).alloc (by simp) _
  have hcon := eqwords_any ao bo la ca lb cb x y _ (hx.later hbW) (hy.later hbW) hl
  have HB : Hid _ := hbW
  clear hx hy hbW
  go_enter Tryz.func32, Tryz.ntmps32
  go_wp2_with (go_at_call 33; refine hcon.mono ?_; rintro e w' ⟨rfl, hb⟩)
  go_ret
  exact ⟨rfl, bnext HB.out hb⟩
 ·
  have hs' : (na == nb) = false := by simpa using hs
  rw [decide_eq_false hs, Bool.false_and]
  go_enter Tryz.func32, Tryz.ntmps32
  go_wp2
  go_ret
  exact ⟨rfl, ((Below.refl _ _).alloc (Nat.le_refl _) _).alloc (by simp) _⟩
theorem ofLimb_any (n : Nat) (w : World) (hn : n < 18446744073709551616) :
  Calls Tryz.prog 85 #[.int .u64 n] w fun e w' => NewNat w w' e n := by
 by_cases h0 : n = 0
 ·
  subst h0
  go_enter Tryz.func85, Tryz.ntmps85
  go_wp2
  go_ret
  exact ⟨_, _, _, rfl, Own.none_, Below.refl _ _⟩
 ·
  have h1 : ((n : Int) == 0) = false := by simp; omega
  have hm : Hid (mag n = [(n : Int)]) := mag_of (Wd.one (by omega)) (by simp [Can]; omega) (by simp [val])
  have hb : Hid (Blk (w.alloc (.cells #[.int .u64 (n : Int)] 60)) w.heap.size .u64 60 [(n : Int)]) := Blk.new w .u64 60 [(n : Int)]
  clear h0
  go_enter Tryz.func85, Tryz.ntmps85
  go_wp2
  go_ret
  exact ⟨_, _, _, rfl, by rw [hm.out]; exact Own.whole hb.out (Nat.le_refl _) rfl, (Below.refl _ _).alloc (Nat.le_refl _) _⟩
theorem nof_any (n : Nat) (w : World) (hn : n < 18446744073709551616) :
  Calls Tryz.prog 45 #[.int .u64 n] w fun e w' => NewNat w w' e n := by
 have hb : Hid (Blk (w.alloc (.cells #[.int .u64 (n : Int)] 60)) w.heap.size .u64 60 [(n : Int)]) := Blk.new w .u64 60 [(n : Int)]
 have hcon := ntrim_any (some ⟨w.heap.size, 0, none⟩) 1 1 [(n : Int)] _ (Own.whole hb.out (Nat.le_refl _) rfl).row (by decide)
 go_enter Tryz.func45, Tryz.ntmps45
 go_wp2_with (go_at_call 70; refine hcon.mono ?_; rintro e w4 ⟨hT, rfl⟩; obtain ⟨ao', n', cap', hn', rfl, hrest⟩ := hT)
 go_ret
 exact Trimmed.nat (L := [(n : Int)]) ⟨ao', n', cap', hn', rfl, hrest⟩ hb.out rfl (Nat.le_refl _) (Wd.one (by omega)) (by simp [val]) ((Below.refl _ _).alloc (Nat.le_refl _) _)
end Go.Proofs.YthjkdnlbdhhmbaaGreatDoor
