/-
  A pack of walks and facts: HX, IH, RJ.
-/
import Derived.Test.YtiiefpnkpfliiaaGreatDoorPC09
import Derived.Test.YtiiefpnkpfliiaaGreatDoorPC15
import Derived.Test.YtiiefpnkpfliiaaGreatDoorPC16
import Derived.Laws.Strings
import Derived.Shelf.Strings.Prefix
import Derived.Deep.RegionHeld3
import Derived.Shelf.Strings.Search1
import Derived.Lib.IndexLaws
set_option maxRecDepth 100000
set_option maxHeartbeats 40000000
set_option linter.unusedVariables false
set_option linter.unusedSimpArgs false
namespace Go.Proofs.YtiiefpnkpfliiaaGreatDoor
open Go.RowKit
def DigB (d : ByteArray) (sz : Nat) : Prop := (∀ j, j < d.size → 48 ≤ byteAt d j ∧ byteAt d j ≤ 57) ∧ 0 < d.size ∧ d.size ≤ 1024 ∧ (byteAt d 0 = 48 → sz ≤ 1)
structure ReadSt (d : ByteArray) (sz k j M W : Nat) : Prop where
 dig : ∀ i, i < k → 48 ≤ byteAt d i ∧ byteAt d i ≤ 57
 top : 0 < k → byteAt d 0 = 48 → sz ≤ 1
 jl : j ≤ 18
 wl : W < 10 ^ j
 eq : M * 10 ^ j + W = decVal d k
 last : k = d.size → j = 0
theorem ReadSt.more {d : ByteArray} {sz k j M W t : Nat} (h : ReadSt d sz k j M W) (ht : t ≤ 9) (hx : byteAt d k = 48 + t) (h0 : k = 0 → t = 0 → sz ≤ 1) (hj : j + 1 ≤ 18) (hk : k + 1 < d.size) : ReadSt d sz (k + 1) (j + 1) M (W * 10 + t) := by
 refine ⟨fun i hi => ?_, fun _ e => ?_, hj, ?_, ?_, fun e => by omega⟩
 ·
  by_cases e : i = k
  ·
   subst e; omega
  ·
   exact h.dig i (by omega)
 ·
  by_cases e0 : k = 0
  ·
   subst e0; exact h0 rfl (by omega)
  ·
   exact h.top (by omega) e
 ·
  have := h.wl; rw [Nat.pow_succ]; omega
 ·
  have := h.eq; rw [decVal, ← this, hx, Nat.pow_succ, Nat.add_sub_cancel_left]; grind
theorem ReadSt.flush {d : ByteArray} {sz k j M W t : Nat} (h : ReadSt d sz k j M W) (ht : t ≤ 9) (hx : byteAt d k = 48 + t) (h0 : k = 0 → t = 0 → sz ≤ 1) : ReadSt d sz (k + 1) 0 (M * 10 ^ (j + 1) + (W * 10 + t)) 0 := by
 refine ⟨fun i hi => ?_, fun _ e => ?_, by omega, by decide, ?_, fun _ => rfl⟩
 ·
  by_cases e : i = k
  ·
   subst e; omega
  ·
   exact h.dig i (by omega)
 ·
  by_cases e0 : k = 0
  ·
   subst e0; exact h0 rfl (by omega)
  ·
   exact h.top (by omega) e
 ·
  have := h.eq; rw [decVal, ← this, hx, Nat.pow_succ, Nat.add_sub_cancel_left]; grind
theorem ReadSt.len {d : ByteArray} {sz k j M W : Nat} (h : ReadSt d sz k j M W) (hk : k ≤ 1024) : (mag M).length ≤ 1024 := by
 have h1 : decVal d k < 10 ^ k := by
  have : ∀ i, i ≤ k → decVal d i < 10 ^ i := by
   intro i
   induction i with
   | zero => intro _; simp [decVal]
   | succ i ih =>
    intro hi
    have h2 := ih (by omega)
    have h3 := h.dig i (by omega)
    rw [decVal, Nat.pow_succ]; omega
  exact this k (Nat.le_refl _)
 have h2 : 10 ^ k ≤ 2 ^ (64 * k) := by rw [Nat.pow_mul]; exact Nat.pow_le_pow_left (by decide) _
 have h3 : M ≤ decVal d k := by
  rw [← h.eq]
  exact Nat.le_trans (Nat.le_mul_of_pos_right _ (Nat.pow_pos (by decide))) (Nat.le_add_right _ _)
 exact Nat.le_trans (two_len (l := 64 * k) (Nat.lt_of_le_of_lt h3 (Nat.lt_of_lt_of_le h1 h2)) (Nat.le_refl _)) hk
end Go.Proofs.YtiiefpnkpfliiaaGreatDoor
namespace Go.Proofs.YtiiefpnkpfliiaaGreatDoor
open Go.RowKit
theorem ofLimb_at (n : Nat) (v : Int) (w : World) (hv : v = (n : Int)) (hn : n < 18446744073709551616) :
  Calls Tryz.prog 112 #[.int .u64 v] w fun e w' => NewNat w w' e n := by
 subst hv; exact ofLimb_any n w hn
def ReadOut (d : ByteArray) (sz : Nat) (w w' : World) (e : Ending) : Prop :=
 Below w.heap.size w w' ∧ ((∃ ao l c, e = .returned (.tuple #[.slice ao l c, .bool true]) ∧ DigB d sz ∧ Own w.heap.size w' .u64 59 ao l c (mag (decVal d d.size))) ∨ (e = .returned (.tuple #[.slice none 0 0, .bool false]) ∧ ¬ DigB d sz))
theorem readDecimal_any (s d : ByteArray) (w : World) (hcon : Calls Tryz.prog 172 #[.string s, .string ⟨#[45]⟩] w fun e w' => e = .returned (.string d) ∧ w' = w) (hs : s.size ≤ 9223372036854775807) (hds : d.size ≤ s.size) :
  Calls Tryz.prog 152 #[.string s] w fun e w' => ReadOut d s.size w w' e := by
 have HM : Hid (mag 0 = []) := mag_of (Wd.nil _) Can.nil rfl
 by_cases c0 : d.size = 0
 ·
  have hd0 : d = ⟨#[]⟩ := by
   cases d with
   | mk a => congr; exact Array.eq_empty_of_size_eq_zero c0
  have HN : Hid (¬ DigB d s.size) := fun h => by have := h.2.1; omega
  subst hd0
  go_enter Tryz.func152, Tryz.ntmps152
  go_wp2_with (go_at_call 172; refine hcon.mono ?_; rintro e w1 ⟨rfl, hw1⟩; replace hw1 := hw1.symm; subst hw1)
  go_ret2
  exact ⟨Below.refl _ _, Or.inr ⟨rfl, HN.out⟩⟩
 ·
  have hne : d.toList.isEmpty = false := by
   rw [ByteArray.toList_eq]
   cases hl : d.data.toList with
   | nil => exact absurd (show d.data.size = 0 by rw [← Array.length_toList, hl]; rfl) c0
   | cons _ _ => rfl
  by_cases c1 : d.size ≤ 1024
  ·
   have c1' : ¬ (1024 : Int) < (d.size : Int) := by omega
   go_enter Tryz.func152, Tryz.ntmps152
   go_wp2_with (go_at_call 172; refine hcon.mono ?_; rintro e w1 ⟨rfl, hw1⟩; replace hw1 := hw1.symm; subst hw1)
   go_loopw [5, 6, 7, 21] (fun m wd u i wr => ∃ (k j M W U : Nat) (ao : Option Addr) (l c : Nat), k ≤ d.size ∧ i = .int .i64 k ∧ m = .slice ao l c ∧ wd = .int .u64 (W : Int) ∧ u = .int .u64 (U : Int) ∧ Hid (U = 10 ^ j) ∧ Hid (ReadSt d s.size k j M W) ∧ Hid (Own w.heap.size wr .u64 59 ao l c (mag M)) ∧ Below w.heap.size w wr) (fun _ _ _ i _ => d.size - (intOf i).toNat)
   case atStart => exact ⟨0, 0, 0, 0, 1, none, 0, 0, Nat.zero_le _, rfl, rfl, rfl, rfl, rfl, ⟨fun i h => by omega, fun h => by omega, by omega, by decide, by simp [decVal], fun _ => rfl⟩, by show Own _ _ _ _ _ _ _ _; rw [HM.out]; exact Own.none_, Below.refl _ _⟩
   case round =>
    obtain ⟨k, j, M, W, U, ao, l, c, hk, rfl, rfl, rfl, rfl, HU, HS, HO, hbel⟩ := hrel
    have hj := HS.out.jl
    have hW : W < U := by rw [HU.out]; exact HS.out.wl
    have hten : U ≤ 1000000000000000000 := by rw [HU.out]; exact Nat.le_trans (Nat.pow_le_pow_right (n := 10) (by decide) hj) (by decide)
    have HU18 : Hid (U = 1000000000000000000 → j = 18) := fun e => by
     by_cases h : j = 18
     ·
      exact h
     ·
      have h2 : 10 ^ j ≤ 10 ^ 17 := Nat.pow_le_pow_right (by decide) (by omega)
      have h3 := HU.out
      omega
    have HU17 : Hid (U < 1000000000000000000 → j ≤ 17) := fun e => by
     by_cases h : j = 18
     ·
      subst h; have h3 := HU.out; omega
     ·
      omega
    have hl : l ≤ 1024 := by rw [HO.out.row.hlen]; exact HS.out.len (by omega)
    by_cases hlt : k < d.size
    ·
     have hbk := byteAt_of hlt
     by_cases hdg : 48 ≤ byteAt d k ∧ byteAt d k ≤ 57
     ·
      obtain ⟨t, ht⟩ : ∃ t, byteAt d k = 48 + t := ⟨byteAt d k - 48, by omega⟩
      have ht9 : t ≤ 9 := by omega
      by_cases hz : t = 0 ∧ k = 0 ∧ 1 < s.size
      ·
       obtain ⟨rfl, rfl, hz3⟩ := hz
       have hx' : (d[0].toNat : Int) = 48 := by omega
       have hz' : (1 : Int) < (s.size : Int) := by omega
       have HN : Hid (¬ DigB d s.size) := fun h => by have := h.2.2.2 (by omega); omega
       clear ht hbk hdg
       go_wp2
       go_ret2
       exact ⟨hbel, Or.inr ⟨rfl, HN.out⟩⟩
      ·
       have H0 : Hid (k = 0 → t = 0 → s.size ≤ 1) := fun h1 h2 => by
        by_cases h3 : 1 < s.size
        ·
         exact absurd ⟨h2, h1, h3⟩ hz
        ·
         omega
       have HX : Hid (byteAt d k = 48 + t) := ht
       have hz1 : ¬ (t = 0 ∧ k = 0 ∧ 1 < s.size) := hz
       clear hz hz1
       obtain ⟨T, hTT⟩ : ∃ T, t = T := ⟨_, rfl⟩
       have HTT : Hid (t = T) := hTT
       clear hTT
       obtain rfl | rfl | rfl | rfl | rfl | rfl | rfl | rfl | rfl | rfl : t = 0 ∨ t = 1 ∨ t = 2 ∨ t = 3 ∨ t = 4 ∨ t = 5 ∨ t = 6 ∨ t = 7 ∨ t = 8 ∨ t = 9 := by omega
       ·
        have hx' : (d[k].toNat : Int) = 48 := by omega
        clear ht hbk hdg
        by_cases hk0 : k = 0
        ·
         subst hk0
         have hz' : ¬ (1 : Int) < (s.size : Int) := by have := H0.out rfl rfl; omega
         by_cases hu : U < 1000000000000000000
         ·
          have hu' : (((U : Int) * 10) == 10000000000000000000) = false := by simp; omega
          by_cases hk1 : 0 + 1 < d.size
          ·
           have hk1' : (((0 : Nat) : Int) == (d.size : Int) - 1) = false := (by simp <;> omega)
           exact absurd hk1 (by omega)
          ·
           have hk1' : (((0 : Nat) : Int) == (d.size : Int) - 1) = true := by simp; omega
           have hO := one_row' wr (U * 10) ((U : Int) * 10) (by omega) (by omega) (by omega)
           have HO1 : Hid (Own wr.heap.size (wr.alloc (.cells #[.int .u64 ((U : Int) * 10)] 59)) .u64 59 (some ⟨wr.heap.size, 0, none⟩) 1 1 (mag (U * 10)) ∧ Below wr.heap.size wr (wr.alloc (.cells #[.int .u64 ((U : Int) * 10)] 59))) := hO
           clear hO
           go_wp2_with (first
            | (go_at_call 149; refine (times_any ao (some ⟨wr.heap.size, 0, none⟩) l c 1 1 M (U * 10) _ (HO.out.row.later HO1.out.2) HO1.out.1.row (by omega) (by omega)).mono ?_; rintro e y1 ⟨o1, l1, c1, rfl, hr1, hb1⟩; have hl1 : l1 ≤ 2000 := (by rw [hr1.row.hlen]; have q1 := mag_len_mul M (U * 10); have q2 := HO1.out.1.row.hlen; have q3 := HO.out.row.hlen; omega))
            | (go_at_call 112; refine (ofLimb_at (W * 10 + 0) _ _ (by omega) (by omega)).mono ?_; rintro e y2 ⟨o2, l2, c2, rfl, hr2, hb2⟩; have hl2 : l2 ≤ 1 := (by rw [hr2.row.hlen]; exact mag_len_one (by omega)))
            | (go_at_call 129; refine (plus_any o1 o2 l1 c1 l2 c2 (M * (U * 10)) (W * 10 + 0) _ (hr1.row.later hb2) hr2.row (by omega) (by omega)).mono ?_; rintro e y3 ⟨o3, l3, c3, rfl, hr3, hb3⟩; have HB3 : Hid (Below wr.heap.size wr y3) := bnext (bnext (bnext HO1.out.2 hb1) hb2) hb3; have hs2 : wr.heap.size ≤ y2.heap.size := (bnext (bnext HO1.out.2 hb1) hb2).size))
           go_roundw
           case rel => exact ⟨0 + 1, 0, M * (U * 10) + (W * 10 + 0), 0, 1, _, _, _, by omega, congrArg (Value.int .i64) (by omega), rfl, rfl, rfl, rfl, (by rw [HU.out]; exact HS.out.flush (by decide) HX.out (fun a b => H0.out (by first | exact a | trivial) (by first | exact b | trivial))), hr3.mono (Nat.le_trans hbel.size hs2), hbel.trans (HB3.out.mono hbel.size)⟩
           case measure => (simp [intOf]) <;> omega
         ·
          have hu' : (((U : Int) * 10) == 10000000000000000000) = true := by simp; omega
          have hO := one_row' wr (U * 10) ((U : Int) * 10) (by omega) (by omega) (by omega)
          have HO1 : Hid (Own wr.heap.size (wr.alloc (.cells #[.int .u64 ((U : Int) * 10)] 59)) .u64 59 (some ⟨wr.heap.size, 0, none⟩) 1 1 (mag (U * 10)) ∧ Below wr.heap.size wr (wr.alloc (.cells #[.int .u64 ((U : Int) * 10)] 59))) := hO
          clear hO
          go_wp2_with (first
           | (go_at_call 149; refine (times_any ao (some ⟨wr.heap.size, 0, none⟩) l c 1 1 M (U * 10) _ (HO.out.row.later HO1.out.2) HO1.out.1.row (by omega) (by omega)).mono ?_; rintro e y1 ⟨o1, l1, c1, rfl, hr1, hb1⟩; have hl1 : l1 ≤ 2000 := (by rw [hr1.row.hlen]; have q1 := mag_len_mul M (U * 10); have q2 := HO1.out.1.row.hlen; have q3 := HO.out.row.hlen; omega))
           | (go_at_call 112; refine (ofLimb_at (W * 10 + 0) _ _ (by omega) (by omega)).mono ?_; rintro e y2 ⟨o2, l2, c2, rfl, hr2, hb2⟩; have hl2 : l2 ≤ 1 := (by rw [hr2.row.hlen]; exact mag_len_one (by omega)))
           | (go_at_call 129; refine (plus_any o1 o2 l1 c1 l2 c2 (M * (U * 10)) (W * 10 + 0) _ (hr1.row.later hb2) hr2.row (by omega) (by omega)).mono ?_; rintro e y3 ⟨o3, l3, c3, rfl, hr3, hb3⟩; have HB3 : Hid (Below wr.heap.size wr y3) := bnext (bnext (bnext HO1.out.2 hb1) hb2) hb3; have hs2 : wr.heap.size ≤ y2.heap.size := (bnext (bnext HO1.out.2 hb1) hb2).size))
          go_roundw
          case rel => exact ⟨0 + 1, 0, M * (U * 10) + (W * 10 + 0), 0, 1, _, _, _, by omega, congrArg (Value.int .i64) (by omega), rfl, rfl, rfl, rfl, (by rw [HU.out]; exact HS.out.flush (by decide) HX.out (fun a b => H0.out (by first | exact a | trivial) (by first | exact b | trivial))), hr3.mono (Nat.le_trans hbel.size hs2), hbel.trans (HB3.out.mono hbel.size)⟩
          case measure => (simp [intOf]) <;> omega
        ·
         have hk0' : ((k : Int) == 0) = false := by simp; omega
         by_cases hu : U < 1000000000000000000
         ·
          have hu' : (((U : Int) * 10) == 10000000000000000000) = false := by simp; omega
          by_cases hk1 : k + 1 < d.size
          ·
           have hk1' : (((k : Nat) : Int) == (d.size : Int) - 1) = false := (by simp <;> omega)
           go_wp2
           go_roundw
           case rel => exact ⟨k + 1, j + 1, M, W * 10 + 0, U * 10, _, _, _, by omega, congrArg (Value.int .i64) (by omega), rfl, congrArg (Value.int .u64) (by omega), congrArg (Value.int .u64) (by omega), (by show _ = _; rw [HU.out, Nat.pow_succ]), HS.out.more (by decide) HX.out (fun a b => H0.out (by first | exact a | trivial) (by first | exact b | trivial)) (by have := HU17.out hu; omega) (by omega), HO, hbel⟩
           case measure => (simp [intOf]) <;> omega
          ·
           have hk1' : (((k : Nat) : Int) == (d.size : Int) - 1) = true := by simp; omega
           have hO := one_row' wr (U * 10) ((U : Int) * 10) (by omega) (by omega) (by omega)
           have HO1 : Hid (Own wr.heap.size (wr.alloc (.cells #[.int .u64 ((U : Int) * 10)] 59)) .u64 59 (some ⟨wr.heap.size, 0, none⟩) 1 1 (mag (U * 10)) ∧ Below wr.heap.size wr (wr.alloc (.cells #[.int .u64 ((U : Int) * 10)] 59))) := hO
           clear hO
           go_wp2_with (first
            | (go_at_call 149; refine (times_any ao (some ⟨wr.heap.size, 0, none⟩) l c 1 1 M (U * 10) _ (HO.out.row.later HO1.out.2) HO1.out.1.row (by omega) (by omega)).mono ?_; rintro e y1 ⟨o1, l1, c1, rfl, hr1, hb1⟩; have hl1 : l1 ≤ 2000 := (by rw [hr1.row.hlen]; have q1 := mag_len_mul M (U * 10); have q2 := HO1.out.1.row.hlen; have q3 := HO.out.row.hlen; omega))
            | (go_at_call 112; refine (ofLimb_at (W * 10 + 0) _ _ (by omega) (by omega)).mono ?_; rintro e y2 ⟨o2, l2, c2, rfl, hr2, hb2⟩; have hl2 : l2 ≤ 1 := (by rw [hr2.row.hlen]; exact mag_len_one (by omega)))
            | (go_at_call 129; refine (plus_any o1 o2 l1 c1 l2 c2 (M * (U * 10)) (W * 10 + 0) _ (hr1.row.later hb2) hr2.row (by omega) (by omega)).mono ?_; rintro e y3 ⟨o3, l3, c3, rfl, hr3, hb3⟩; have HB3 : Hid (Below wr.heap.size wr y3) := bnext (bnext (bnext HO1.out.2 hb1) hb2) hb3; have hs2 : wr.heap.size ≤ y2.heap.size := (bnext (bnext HO1.out.2 hb1) hb2).size))
           go_roundw
           case rel => exact ⟨k + 1, 0, M * (U * 10) + (W * 10 + 0), 0, 1, _, _, _, by omega, congrArg (Value.int .i64) (by omega), rfl, rfl, rfl, rfl, (by rw [HU.out]; exact HS.out.flush (by decide) HX.out (fun a b => H0.out (by first | exact a | trivial) (by first | exact b | trivial))), hr3.mono (Nat.le_trans hbel.size hs2), hbel.trans (HB3.out.mono hbel.size)⟩
           case measure => (simp [intOf]) <;> omega
         ·
          have hu' : (((U : Int) * 10) == 10000000000000000000) = true := by simp; omega
          have hO := one_row' wr (U * 10) ((U : Int) * 10) (by omega) (by omega) (by omega)
          have HO1 : Hid (Own wr.heap.size (wr.alloc (.cells #[.int .u64 ((U : Int) * 10)] 59)) .u64 59 (some ⟨wr.heap.size, 0, none⟩) 1 1 (mag (U * 10)) ∧ Below wr.heap.size wr (wr.alloc (.cells #[.int .u64 ((U : Int) * 10)] 59))) := hO
          clear hO
          go_wp2_with (first
           | (go_at_call 149; refine (times_any ao (some ⟨wr.heap.size, 0, none⟩) l c 1 1 M (U * 10) _ (HO.out.row.later HO1.out.2) HO1.out.1.row (by omega) (by omega)).mono ?_; rintro e y1 ⟨o1, l1, c1, rfl, hr1, hb1⟩; have hl1 : l1 ≤ 2000 := (by rw [hr1.row.hlen]; have q1 := mag_len_mul M (U * 10); have q2 := HO1.out.1.row.hlen; have q3 := HO.out.row.hlen; omega))
           | (go_at_call 112; refine (ofLimb_at (W * 10 + 0) _ _ (by omega) (by omega)).mono ?_; rintro e y2 ⟨o2, l2, c2, rfl, hr2, hb2⟩; have hl2 : l2 ≤ 1 := (by rw [hr2.row.hlen]; exact mag_len_one (by omega)))
           | (go_at_call 129; refine (plus_any o1 o2 l1 c1 l2 c2 (M * (U * 10)) (W * 10 + 0) _ (hr1.row.later hb2) hr2.row (by omega) (by omega)).mono ?_; rintro e y3 ⟨o3, l3, c3, rfl, hr3, hb3⟩; have HB3 : Hid (Below wr.heap.size wr y3) := bnext (bnext (bnext HO1.out.2 hb1) hb2) hb3; have hs2 : wr.heap.size ≤ y2.heap.size := (bnext (bnext HO1.out.2 hb1) hb2).size))
          go_roundw
          case rel => exact ⟨k + 1, 0, M * (U * 10) + (W * 10 + 0), 0, 1, _, _, _, by omega, congrArg (Value.int .i64) (by omega), rfl, rfl, rfl, rfl, (by rw [HU.out]; exact HS.out.flush (by decide) HX.out (fun a b => H0.out (by first | exact a | trivial) (by first | exact b | trivial))), hr3.mono (Nat.le_trans hbel.size hs2), hbel.trans (HB3.out.mono hbel.size)⟩
          case measure => (simp [intOf]) <;> omega
       all_goals
        first | (have hx' : (d[k].toNat : Int) = 49 := (by omega)) | (have hx' : (d[k].toNat : Int) = 50 := (by omega)) | (have hx' : (d[k].toNat : Int) = 51 := (by omega)) | (have hx' : (d[k].toNat : Int) = 52 := (by omega)) | (have hx' : (d[k].toNat : Int) = 53 := (by omega)) | (have hx' : (d[k].toNat : Int) = 54 := (by omega)) | (have hx' : (d[k].toNat : Int) = 55 := (by omega)) | (have hx' : (d[k].toNat : Int) = 56 := (by omega)) | (have hx' : (d[k].toNat : Int) = 57 := (by omega))
        have HXT : Hid (byteAt d k = 48 + T) := by show _ = _; rw [← HTT.out]; exact HX.out
        have H0T : Hid (k = 0 → T = 0 → s.size ≤ 1) := fun a b => H0.out a (HTT.out.trans b)
        clear ht hbk hdg
        by_cases hu : U < 1000000000000000000
        ·
         have hu' : (((U : Int) * 10) == 10000000000000000000) = false := by simp; omega
         by_cases hk1 : k + 1 < d.size
         ·
          have hk1' : (((k : Nat) : Int) == (d.size : Int) - 1) = false := (by simp <;> omega)
          go_wp2
          go_roundw
          case rel => exact ⟨k + 1, j + 1, M, W * 10 + T, U * 10, _, _, _, by omega, congrArg (Value.int .i64) (by omega), rfl, congrArg (Value.int .u64) (by have := HTT.out; omega), congrArg (Value.int .u64) (by have := HTT.out; omega), (by show _ = _; rw [HU.out, Nat.pow_succ]), HS.out.more (by have := HTT.out; omega) HXT.out (fun a b => H0T.out (by first | exact a | trivial) (by first | exact b | trivial)) (by have := HU17.out hu; omega) (by omega), HO, hbel⟩
          case measure => (simp [intOf]) <;> omega
         ·
          have hk1' : (((k : Nat) : Int) == (d.size : Int) - 1) = true := by simp; omega
          have hO := one_row' wr (U * 10) ((U : Int) * 10) (by omega) (by omega) (by omega)
          have HO1 : Hid (Own wr.heap.size (wr.alloc (.cells #[.int .u64 ((U : Int) * 10)] 59)) .u64 59 (some ⟨wr.heap.size, 0, none⟩) 1 1 (mag (U * 10)) ∧ Below wr.heap.size wr (wr.alloc (.cells #[.int .u64 ((U : Int) * 10)] 59))) := hO
          clear hO
          go_wp2_with (first
           | (go_at_call 149; refine (times_any ao (some ⟨wr.heap.size, 0, none⟩) l c 1 1 M (U * 10) _ (HO.out.row.later HO1.out.2) HO1.out.1.row (by omega) (by omega)).mono ?_; rintro e y1 ⟨o1, l1, c1, rfl, hr1, hb1⟩; have hl1 : l1 ≤ 2000 := (by rw [hr1.row.hlen]; have q1 := mag_len_mul M (U * 10); have q2 := HO1.out.1.row.hlen; have q3 := HO.out.row.hlen; omega))
           | (go_at_call 112; refine (ofLimb_at (W * 10 + T) _ _ (by have := HTT.out; omega) (by have := HTT.out; omega)).mono ?_; rintro e y2 ⟨o2, l2, c2, rfl, hr2, hb2⟩; have hl2 : l2 ≤ 1 := (by rw [hr2.row.hlen]; exact mag_len_one (by have := HTT.out; omega)))
           | (go_at_call 129; refine (plus_any o1 o2 l1 c1 l2 c2 (M * (U * 10)) (W * 10 + T) _ (hr1.row.later hb2) hr2.row (by omega) (by omega)).mono ?_; rintro e y3 ⟨o3, l3, c3, rfl, hr3, hb3⟩; have HB3 : Hid (Below wr.heap.size wr y3) := bnext (bnext (bnext HO1.out.2 hb1) hb2) hb3; have hs2 : wr.heap.size ≤ y2.heap.size := (bnext (bnext HO1.out.2 hb1) hb2).size))
          go_roundw
          case rel => exact ⟨k + 1, 0, M * (U * 10) + (W * 10 + T), 0, 1, _, _, _, by omega, congrArg (Value.int .i64) (by omega), rfl, rfl, rfl, rfl, (by rw [HU.out]; exact HS.out.flush (by have := HTT.out; omega) HXT.out (fun a b => H0T.out (by first | exact a | trivial) (by first | exact b | trivial))), hr3.mono (Nat.le_trans hbel.size hs2), hbel.trans (HB3.out.mono hbel.size)⟩
          case measure => (simp [intOf]) <;> omega
        ·
         have hu' : (((U : Int) * 10) == 10000000000000000000) = true := by simp; omega
         have hO := one_row' wr (U * 10) ((U : Int) * 10) (by omega) (by omega) (by omega)
         have HO1 : Hid (Own wr.heap.size (wr.alloc (.cells #[.int .u64 ((U : Int) * 10)] 59)) .u64 59 (some ⟨wr.heap.size, 0, none⟩) 1 1 (mag (U * 10)) ∧ Below wr.heap.size wr (wr.alloc (.cells #[.int .u64 ((U : Int) * 10)] 59))) := hO
         clear hO
         go_wp2_with (first
          | (go_at_call 149; refine (times_any ao (some ⟨wr.heap.size, 0, none⟩) l c 1 1 M (U * 10) _ (HO.out.row.later HO1.out.2) HO1.out.1.row (by omega) (by omega)).mono ?_; rintro e y1 ⟨o1, l1, c1, rfl, hr1, hb1⟩; have hl1 : l1 ≤ 2000 := (by rw [hr1.row.hlen]; have q1 := mag_len_mul M (U * 10); have q2 := HO1.out.1.row.hlen; have q3 := HO.out.row.hlen; omega))
          | (go_at_call 112; refine (ofLimb_at (W * 10 + T) _ _ (by have := HTT.out; omega) (by have := HTT.out; omega)).mono ?_; rintro e y2 ⟨o2, l2, c2, rfl, hr2, hb2⟩; have hl2 : l2 ≤ 1 := (by rw [hr2.row.hlen]; exact mag_len_one (by have := HTT.out; omega)))
          | (go_at_call 129; refine (plus_any o1 o2 l1 c1 l2 c2 (M * (U * 10)) (W * 10 + T) _ (hr1.row.later hb2) hr2.row (by omega) (by omega)).mono ?_; rintro e y3 ⟨o3, l3, c3, rfl, hr3, hb3⟩; have HB3 : Hid (Below wr.heap.size wr y3) := bnext (bnext (bnext HO1.out.2 hb1) hb2) hb3; have hs2 : wr.heap.size ≤ y2.heap.size := (bnext (bnext HO1.out.2 hb1) hb2).size))
         go_roundw
         case rel => exact ⟨k + 1, 0, M * (U * 10) + (W * 10 + T), 0, 1, _, _, _, by omega, congrArg (Value.int .i64) (by omega), rfl, rfl, rfl, rfl, (by rw [HU.out]; exact HS.out.flush (by have := HTT.out; omega) HXT.out (fun a b => H0T.out (by first | exact a | trivial) (by first | exact b | trivial))), hr3.mono (Nat.le_trans hbel.size hs2), hbel.trans (HB3.out.mono hbel.size)⟩
         case measure => (simp [intOf]) <;> omega
     ·
      have HN : Hid (¬ DigB d s.size) := fun h => hdg (h.1 k hlt)
      have g0 : ¬ (d[k].toNat : Int) = 48 := by omega
      have g1 : ¬ (d[k].toNat : Int) = 49 := by omega
      have g2 : ¬ (d[k].toNat : Int) = 50 := by omega
      have g3 : ¬ (d[k].toNat : Int) = 51 := by omega
      have g4 : ¬ (d[k].toNat : Int) = 52 := by omega
      have g5 : ¬ (d[k].toNat : Int) = 53 := by omega
      have g6 : ¬ (d[k].toNat : Int) = 54 := by omega
      have g7 : ¬ (d[k].toNat : Int) = 55 := by omega
      have g8 : ¬ (d[k].toNat : Int) = 56 := by omega
      have g9 : ¬ (d[k].toNat : Int) = 57 := by omega
      clear hbk hdg
      go_wp2
      go_ret2
      exact ⟨hbel, Or.inr ⟨rfl, HN.out⟩⟩
    ·
     obtain rfl : k = d.size := by omega
     have HJ : Hid (j = 0 ∧ W = 0) := by
      have := HS.out.last rfl
      subst this
      exact ⟨rfl, by have := HS.out.wl; simpa using this⟩
     go_wp2
     go_ret2
     refine ⟨hbel, Or.inl ⟨_, _, _, rfl, ⟨HS.out.dig, by omega, c1, HS.out.top (by omega)⟩, ?_⟩⟩
     have h := HS.out.eq
     rw [HJ.out.1, HJ.out.2, Nat.pow_zero, Nat.mul_one, Nat.add_zero] at h
     rw [← h]; exact HO.out
  ·
   have c1' : (1024 : Int) < (d.size : Int) := by omega
   have HN : Hid (¬ DigB d s.size) := fun h => c1 h.2.2.1
   go_enter Tryz.func152, Tryz.ntmps152
   go_wp2_with (go_at_call 172; refine hcon.mono ?_; rintro e w1 ⟨rfl, hw1⟩; replace hw1 := hw1.symm; subst hw1)
   go_ret2
   exact ⟨Below.refl _ _, Or.inr ⟨rfl, HN.out⟩⟩
end Go.Proofs.YtiiefpnkpfliiaaGreatDoor
namespace Go.Proofs.YtiiefpnkpfliiaaGreatDoor
open Go.RowKit
def renTP : Go.Shelf.Ren := ⟨fun x => if x = 101 then 172 else if x = 208 then 193 else 200, fun x => if x = 3 then 3 else if x = 4 then 4 else 9, fun x => x⟩
theorem lays101 : Lays.n101 Tryz.prog renTP := by
 constructor <;> first | (intro w; kernel_rfl) | kernel_rfl
theorem trimMinus_any (s : ByteArray) (w : World) : Calls Tryz.prog 172 #[.string s, .string ⟨#[45]⟩] w fun e w' => e = .returned (.string ⟨(Lib.trimPrefix s.data.toList [45]).toArray⟩) ∧ w' = w :=
 Any.strings_TrimPrefix lays101 s ⟨#[45]⟩ w
theorem byte_head {s : ByteArray} {x : UInt8} {r : List UInt8} (h : s.data.toList = x :: r) : 0 < s.size ∧ byteAt s 0 = x.toNat := by
 have hs : 0 < s.size := by
  show 0 < s.data.size
  rw [← Array.length_toList, h]; simp
 refine ⟨hs, ?_⟩
 rw [byteAt_of hs]
 have e : s[0] = x := by
  show s.data[0] = x
  rw [← Array.getElem_toList]
  simp [h]
 rw [e]
theorem trim_signed {s : ByteArray} (h : Signed s) : (⟨(Lib.trimPrefix s.data.toList [45]).toArray⟩ : ByteArray) = s.extract 1 s.size := by
 obtain ⟨h0, h1⟩ := h
 cases hl : s.data.toList with
 | nil =>
  exfalso
  have : s.data.size = 0 := by rw [← Array.length_toList, hl]; rfl
  have h2 : s.size = s.data.size := rfl
  omega
 | cons x r =>
  have hx := (byte_head hl).2
  rw [h1] at hx
  have hx' : x = 45 := UInt8.toNat_inj.1 (by rw [← hx]; rfl)
  subst hx'
  have e : Lib.trimPrefix (45 :: r) [45] = r := by simp [Lib.trimPrefix, Lib.hasPrefix, List.isPrefixOf]
  rw [e]
  apply ByteArray.ext
  show r.toArray = (s.extract 1 s.size).data
  rw [ByteArray.data_extract]
  apply Array.toList_inj.1
  have h2 : s.size = s.data.toList.length := by rw [Array.length_toList]; rfl
  rw [h2, hl]
  simp [hl]
theorem trim_plain {s : ByteArray} (h : ¬ Signed s) : (⟨(Lib.trimPrefix s.data.toList [45]).toArray⟩ : ByteArray) = s := by
 have e : Lib.trimPrefix s.data.toList [45] = s.data.toList := by
  unfold Lib.trimPrefix Lib.hasPrefix
  cases hl : s.data.toList with
  | nil => simp [List.isPrefixOf]
  | cons x r =>
   have hx := byte_head hl
   have : ¬ x = 45 := fun e => h ⟨hx.1, by rw [hx.2, e]; rfl⟩
   have h2 : ¬ (45 : UInt8) = x := fun e => this e.symm
   simp [List.isPrefixOf, h2]
 rw [e]
theorem dec_pos {d : ByteArray} {k : Nat} (h : ∀ j, j < k → 48 ≤ byteAt d j) (h0 : byteAt d 0 ≠ 48) (hk : 0 < k) : decVal d k ≠ 0 := by
 induction k with
 | zero => omega
 | succ k ih =>
  by_cases e : k = 0
  ·
   subst e
   have := h 0 (by omega)
   simp [decVal]; omega
  ·
   have h1 := ih (fun j hj => h j (by omega)) (by omega)
   rw [decVal]; omega
theorem digb_signed {d : ByteArray} {sz : Nat} (hz : sz = d.size + 1) : DigB d sz ↔ (Dig d ∧ decVal d d.size ≠ 0) := by
 constructor
 ·
  rintro ⟨h1, h2, h3, h4⟩
  have h0 : byteAt d 0 ≠ 48 := fun e => by have := h4 e; omega
  exact ⟨⟨h1, h2, h3, fun e => absurd e h0⟩, dec_pos (fun j hj => (h1 j hj).1) h0 h2⟩
 ·
  rintro ⟨⟨h1, h2, h3, h4⟩, h5⟩
  refine ⟨h1, h2, h3, fun e => ?_⟩
  exfalso
  have h6 := h4 e
  apply h5
  rw [h6]; simp [decVal, e]
theorem digb_plain {d : ByteArray} : DigB d d.size ↔ Dig d := by
 constructor
 ·
  rintro ⟨h1, h2, h3, h4⟩
  exact ⟨h1, h2, h3, fun e => by have := h4 e; omega⟩
 ·
  rintro ⟨h1, h2, h3, h4⟩
  exact ⟨h1, h2, h3, fun e => by have := h4 e; omega⟩
theorem read_yes (s d : ByteArray) (w : World) (hcon : Calls Tryz.prog 172 #[.string s, .string ⟨#[45]⟩] w fun e w' => e = .returned (.string d) ∧ w' = w) (hs : s.size ≤ 9223372036854775807) (hds : d.size ≤ s.size) (hd : DigB d s.size) :
  Calls Tryz.prog 152 #[.string s] w fun e w' => ∃ ao l c, e = .returned (.tuple #[.slice ao l c, .bool true]) ∧ Own w.heap.size w' .u64 59 ao l c (mag (decVal d d.size)) ∧ Below w.heap.size w w' :=
 (readDecimal_any s d w hcon hs hds).mono fun e w' h => by
  rcases h.2 with ⟨ao, l, c, h1, _, h3⟩ | h'
  ·
   exact ⟨ao, l, c, h1, h3, h.1⟩
  ·
   exact absurd hd h'.2
theorem read_no (s d : ByteArray) (w : World) (hcon : Calls Tryz.prog 172 #[.string s, .string ⟨#[45]⟩] w fun e w' => e = .returned (.string d) ∧ w' = w) (hs : s.size ≤ 9223372036854775807) (hds : d.size ≤ s.size) (hd : ¬ DigB d s.size) :
  Calls Tryz.prog 152 #[.string s] w fun e w' => e = .returned (.tuple #[.slice none 0 0, .bool false]) ∧ Below w.heap.size w w' :=
 (readDecimal_any s d w hcon hs hds).mono fun e w' h => by
  rcases h.2 with ⟨ao, l, c, h1, h2, h3⟩ | h'
  ·
   exact absurd h2 hd
  ·
   exact ⟨h'.1, h.1⟩
theorem bparse_no (s d : ByteArray) (w : World) (hcon : ∀ W, Calls Tryz.prog 172 #[.string s, .string ⟨#[45]⟩] W fun e w' => e = .returned (.string d) ∧ w' = W) (hs : s.size ≤ 9223372036854775807) (hds : d.size ≤ s.size) (hd : ¬ DigB d s.size) :
  Calls Tryz.prog 138 #[.string s] w fun e w' => e = .returned (.tuple #[.agg #[.bool false, .slice none 0 0], .int .i64 13]) ∧ Below w.heap.size w w' := by
 obtain ⟨W, hW⟩ : ∃ W, W = w.alloc (.cells #[.bool false, .slice none 0 0] 26) := ⟨_, rfl⟩
 have HF : Hid (Fresh W w.heap.size ∧ W.heap.size = w.heap.size + 1 ∧ Below w.heap.size w W) := by
  rw [hW]; exact ⟨Fresh.new w, by simp, (Below.refl _ _).alloc (Nat.le_refl _) _⟩
 have hrd := read_no s d W (hcon W) hs hds hd
 clear hcon hd
 go_enter Tryz.func138, Tryz.ntmps138
 go_wp2_with (go_at_call 152; rw [← hW]; clear hW; refine hrd.mono ?_; rintro e w1 ⟨rfl, hb1⟩; obtain ⟨g5, g3, g4⟩ := HF.out.1.later hb1 (by rw [HF.out.2.1]; omega))
 exact bodyPost_ret (v := .tuple #[.agg #[.bool false, .slice none 0 0], .int .i64 13]) (by simp [results, Tryz.results138, go_sem, g3, g4]) rfl
  ⟨rfl, below_store (bnext HF.out.2.2 hb1) (Nat.le_refl _) _ _⟩
theorem bparse_yes (s d : ByteArray) (neg : Bool) (w : World) (hcon : ∀ W, Calls Tryz.prog 172 #[.string s, .string ⟨#[45]⟩] W fun e w' => e = .returned (.string d) ∧ w' = W) (hs : s.size ≤ 9223372036854775807) (hds : d.size ≤ s.size) (hd : DigB d s.size) (h0 : 0 < s.size) (hb : ((s[0].toNat : Int) == 45) = neg) (hlen : (mag (decVal d d.size)).length ≤ 4611686018427387904) :
  Calls Tryz.prog 138 #[.string s] w fun e w' => NewIntErr w w' e (sgn neg (decVal d d.size)) := by
 obtain ⟨W, hW⟩ : ∃ W, W = w.alloc (.cells #[.bool false, .slice none 0 0] 26) := ⟨_, rfl⟩
 have HF : Hid (Fresh W w.heap.size ∧ W.heap.size = w.heap.size + 1 ∧ Below w.heap.size w W) := by
  rw [hW]; exact ⟨Fresh.new w, by simp, (Below.refl _ _).alloc (Nat.le_refl _) _⟩
 have hrd := read_yes s d W (hcon W) hs hds hd
 have HL : Hid ((mag (decVal d d.size)).length ≤ 4611686018427387904) := hlen
 have h1 : (0 : Int) < (s.size : Int) := by omega
 clear hcon hd hlen
 go_enter Tryz.func138, Tryz.ntmps138
 go_wp2_with (first
  | (go_at_call 152; rw [← hW]; clear hW; refine hrd.mono ?_; rintro e w1 ⟨ao, l, c, rfl, ho, hb1⟩; have hl1 : l ≤ 4611686018427387904 := (by rw [ho.row.hlen]; exact HL.out))
  | (go_at_call 99; refine (signed_any neg ao l c _ hl1).mono ?_; rintro e w2 ⟨rfl, hb2⟩; obtain ⟨g5, g3, g4⟩ := HF.out.1.later (bnext hb1 hb2) (by rw [HF.out.2.1]; omega)))
 exact bodyPost_ret (v := .tuple #[.agg #[.bool (neg && decide (0 < l)), .slice ao l c], .int .i64 0]) (by simp [results, Tryz.results138, go_sem, g3, g4]) rfl
  (NewInt.ret ((ho.later hb2).store (by rw [HF.out.2.1]; omega) _ _) (by rw [HF.out.2.1]; omega) rfl (below_store (bnext HF.out.2.2 (bnext hb1 hb2)) (Nat.le_refl _) _ _)).err
theorem NewIntErr.rparse {w w' : World} {e : Ending} {neg : Bool} {d : ByteArray} (h : NewIntErr w w' e (sgn neg (decVal d d.size))) (h1 : Dig d) (h2 : neg = true → decVal d d.size ≠ 0) : RParse neg d w w' e := by
 obtain ⟨n, ao, l, c, rfl, hs, ho, hb⟩ := h
 exact ⟨hb, Or.inl ⟨n, ao, l, c, rfl, h1, h2, ho.int hs⟩⟩
theorem dig_len {d : ByteArray} (h : Dig d) : (mag (decVal d d.size)).length ≤ 4611686018427387904 := by
 have q1 := decVal_len h (Nat.le_refl _)
 have q2 := h.2.2.1
 omega
theorem bparse_neg (s : ByteArray) (w : World) (hs : s.size ≤ 9223372036854775807) (hsg : Signed s) :
  Calls Tryz.prog 138 #[.string s] w fun e w' => RParse true (s.extract 1 s.size) w w' e := by
 have hsz : (s.extract 1 s.size).size = s.size - 1 := by rw [ByteArray.size_extract]; omega
 have h0 := hsg.1
 have hcon : ∀ W, Calls Tryz.prog 172 #[.string s, .string ⟨#[45]⟩] W fun e w' => e = .returned (.string (s.extract 1 s.size)) ∧ w' = W := fun W => by
  have := trimMinus_any s W
  rw [trim_signed hsg] at this
  exact this
 have hiff := digb_signed (d := s.extract 1 s.size) (sz := s.size) (by omega)
 by_cases hd : DigB (s.extract 1 s.size) s.size
 ·
  have hd' := hiff.1 hd
  refine (bparse_yes s _ true w hcon hs (by omega) hd h0 ?_ (dig_len hd'.1)).mono fun e w' h => h.rparse hd'.1 fun _ => hd'.2
  have := hsg.2
  rw [byteAt_of h0] at this
  rw [this]; rfl
 ·
  refine (bparse_no s _ w hcon hs (by omega) hd).mono fun e w' h => ⟨h.2, Or.inr ⟨h.1, fun h2 => hd (hiff.2 ⟨h2.1, h2.2 rfl⟩)⟩⟩
theorem bparse_plain (s : ByteArray) (w : World) (hs : s.size ≤ 9223372036854775807) (hsg : ¬ Signed s) :
  Calls Tryz.prog 138 #[.string s] w fun e w' => RParse false s w w' e := by
 have hcon : ∀ W, Calls Tryz.prog 172 #[.string s, .string ⟨#[45]⟩] W fun e w' => e = .returned (.string s) ∧ w' = W := fun W => by
  have := trimMinus_any s W
  rw [trim_plain hsg] at this
  exact this
 by_cases hd : DigB s s.size
 ·
  have hd' := digb_plain.1 hd
  have h0 := hd.2.1
  refine (bparse_yes s s false w hcon hs (Nat.le_refl _) hd h0 ?_ (dig_len hd')).mono fun e w' h => h.rparse hd' fun h => by cases h
  have : byteAt s 0 ≠ 45 := fun e => hsg ⟨h0, e⟩
  rw [byteAt_of h0] at this
  simp; omega
 ·
  exact (bparse_no s s w hcon hs (Nat.le_refl _) hd).mono fun e w' h => ⟨h.2, Or.inr ⟨h.1, fun h2 => hd (digb_plain.2 h2.1)⟩⟩
end Go.Proofs.YtiiefpnkpfliiaaGreatDoor
namespace Go.Proofs.YtiiefpnkpfliiaaGreatDoor
open Go.RowKit
def itext (a : Int) : List Int := (if a < 0 then [45] else []) ++ dnums a.natAbs
theorem dnums_pos (n : Nat) : 0 < (dnums n).length := by
 by_cases h : n < 10
 ·
  rw [dnums_one h]; simp
 ·
  rw [dnums_low (by omega)]; simp
theorem conv_owns {B n : Nat} {w : World} {v : Value} {T : List Int} (h : w.ownsRow B 5 1 v n (T.map (Value.int .u8))) (hn : n = T.length) (hp : 0 < n) : ∃ g cap, v = .slice (some ⟨g, 0, none⟩) n cap ∧ (convert 115 9 (.slice (some ⟨g, 0, none⟩) n cap)).run Tryz.prog w = .ok (.string (strOfNums T)) w := by
 obtain ⟨ao, cap, hv, hrow⟩ := row_of_owns hn.symm h
 obtain ⟨g', o', ha, _, hc⟩ := hrow.get hp
 rcases h.2 with ⟨hv', h0⟩ | ⟨g, cap', cur, hv', _⟩
 ·
  omega
 ·
  rw [hv] at hv'
  simp only [Value.slice.injEq] at hv'
  obtain ⟨ha', _, hcc⟩ := hv'
  subst hcc
  rw [ha] at ha'
  cases ha'
  refine ⟨g', cap, hv.trans (by rw [ha]), ?_⟩
  exact run_convert_bytes_arg w _ 5 Tryz.underlying115 Tryz.underlying5 g' 0 n cap T hn.symm (fun i hi => hc i hi) _ Tryz.underlying9
theorem tens_small {B m : Nat} {w : World} {v : Value} (h : TensAt B w v m 2000) : 19 * 2 ^ m ≤ 300000 := by
 cases m with
 | zero => decide
 | succ m =>
  obtain ⟨xs, ho, hx⟩ := h.row
  obtain ⟨o, l, c, h1, h2, h3⟩ := hx m (Nat.lt_succ_self m)
  have h4 : (mag (ten m)).length ≤ 2000 := by rw [← h2.row.hlen]; exact h3
  obtain ⟨K, hK⟩ : ∃ K : Nat, K = 128000 := ⟨_, rfl⟩
  have h5 : ten m < 2 ^ K := by
   have h := val_lt (q := 18446744073709551616) (by decide) (mag_wd (ten m))
   rw [mag_val] at h
   have h6 : ((2 ^ (64 * (mag (ten m)).length) : Nat) : Int) = (18446744073709551616 : Int) ^ (mag (ten m)).length := by rw [Nat.pow_mul, Int.natCast_pow]; rfl
   rw [← h6] at h
   exact Nat.lt_of_lt_of_le (Int.ofNat_lt.1 h) (Nat.pow_le_pow_right (by decide) (by omega))
  have h7 : 2 ^ (19 * 2 ^ m) ≤ ten m := Nat.pow_le_pow_left (by decide) _
  have h8 : 19 * 2 ^ m < K := (Nat.pow_lt_pow_iff_right (by decide)).1 (Nat.lt_of_le_of_lt h7 h5)
  rw [nineteen]; omega
theorem decimal_pos (ao : Option Addr) (len cap n : Nat) (w : World) (hr : RowAt w .u64 ao len cap (mag n)) (hl : len ≤ 1000) (htab : Pow10 w) :
  Calls Tryz.prog 103 #[.agg #[.bool false, .slice ao len cap]] w fun e w' => e = .returned (.string (strOfNums (dnums n))) ∧ Below w.heap.size w w' := by
 obtain ⟨W, hW⟩ : ∃ W, W = w.alloc (.cells #[.bool false, .slice ao len cap] 26) := ⟨_, rfl⟩
 have HW : Hid (Below w.heap.size w W ∧ W.heap.size = w.heap.size + 1 ∧ W.heap[w.heap.size]? = some (.cells #[.bool false, .slice ao len cap] 26 (0, 0)) ∧ Pow10B w.heap.size W) := by
  rw [hW]
  exact ⟨(Below.refl _ _).alloc (Nat.le_refl _) _, by simp, heap_alloc_new w _, (Lib.tabBelow_of_tabIs htab).on ((Below.refl _ _).alloc (Nat.le_refl _) _)⟩
 have HR : Hid (RowAt W .u64 ao len cap (mag n)) := hr.later HW.out.1
 have KS : Hid (∀ w' : World, KeepT W w' → w'.cell? ⟨w.heap.size, 1, none⟩ = some (.slice ao len cap)) := fun w' hk => by
  have := hk.2 _ _ _ _ HW.out.2.2.1 (by decide)
  simp [World.cell?, this]
 have htens := tensUpTo_any ao len cap n W.drew (HR.out.later (Below.refl _ _).drew) hl
 clear hr htab
 go_enter Tryz.func103, Tryz.ntmps103
 go_wp2
 rw [← hW]
 clear hW
 have hc0 := KS.out W (KeepT.refl W)
 go_region_with (first
   | (go_at_call 132; refine htens.mono ?_; rintro e w1 ⟨tv, m, rfl, hT, hn, _, hb1⟩; obtain ⟨xs, ho, _⟩ := hT.row; obtain ⟨tt0, tc, rfl, _⟩ := owns_slice ho; have hk1 : KeepT W w1 := (KeepT.below (Below.refl _ _).drew).trans (KeepT.below hb1); have HT : Hid (TensAt W.drew.heap.size w1 (.slice tt0 m tc) m 2000 ∧ n < ten m ∧ Below W.heap.size W w1 ∧ 19 * 2 ^ m ≤ 300000) := ⟨hT, hn, bnext (Below.refl _ _).drew hb1, tens_small hT⟩; clear hT hn hb1 ho; have hc1 := KS.out _ hk1)
   | (go_at_call 131; refine (appendDecimal_any m w.heap.size W.drew.heap.size (.slice none 0 0) [] ao len cap n tt0 tc false w1 (World.ownsRow_nil _ _ _ _) (Nat.le_trans HW.out.1.size HT.out.2.2.1.size) (HR.out.later HT.out.2.2.1) (by omega) HT.out.2.1 HT.out.1 (by have := HT.out.2.2.2; simp; omega) (HW.out.2.2.2.on (HT.out.2.2.1.mono HW.out.1.size))).mono ?_; rintro e w2 ⟨v2, rfl, hown2, hb2, hk2⟩; rw [List.nil_append] at hown2; obtain ⟨g2, c2, rfl, hcv⟩ := conv_owns hown2 rfl (dnums_pos n); have hk3 : KeepT W w2 := hk1.trans hk2; have HB2 : Hid (Below w.heap.size w w2) := (bnext HW.out.1 HT.out.2.2.1).trans hb2; clear hown2))
 all_goals go_wp2
 all_goals go_ret
 all_goals exact ⟨rfl, HB2.out⟩
theorem decimal_neg (ao : Option Addr) (len cap n : Nat) (w : World) (hr : RowAt w .u64 ao len cap (mag n)) (hl : len ≤ 1000) (htab : Pow10 w) :
  Calls Tryz.prog 103 #[.agg #[.bool true, .slice ao len cap]] w fun e w' => e = .returned (.string (strOfNums (45 :: dnums n))) ∧ Below w.heap.size w w' := by
 obtain ⟨i0, hi, hz0, hz1, hz2⟩ := info_parts info8
 obtain ⟨W, hW⟩ : ∃ W, W = w.alloc (.cells #[.bool true, .slice ao len cap] 26) := ⟨_, rfl⟩
 have HW : Hid (Below w.heap.size w W ∧ W.heap.size = w.heap.size + 1 ∧ W.heap[w.heap.size]? = some (.cells #[.bool true, .slice ao len cap] 26 (0, 0)) ∧ Pow10B w.heap.size W) := by
  rw [hW]
  exact ⟨(Below.refl _ _).alloc (Nat.le_refl _) _, by simp, heap_alloc_new w _, (Lib.tabBelow_of_tabIs htab).on ((Below.refl _ _).alloc (Nat.le_refl _) _)⟩
 have HR : Hid (RowAt W .u64 ao len cap (mag n)) := hr.later HW.out.1
 have KS : Hid (∀ w' : World, KeepT W w' → w'.cell? ⟨w.heap.size, 0, none⟩ = some (.bool true) ∧ w'.cell? ⟨w.heap.size, 1, none⟩ = some (.slice ao len cap)) := fun w' hk => by
  have := hk.2 _ _ _ _ HW.out.2.2.1 (by decide)
  simp [World.cell?, this]
 clear hr htab
 obtain ⟨X, hX⟩ : ∃ X, X = W.alloc (.cells #[.int .u8 45] 5) := ⟨_, rfl⟩
 have HX : Hid (Below W.heap.size W X ∧ w.heap.size ≤ X.heap.size) := by rw [hX]; exact ⟨(Below.refl _ _).alloc (Nat.le_refl _) _, by have := HW.out.2.1; simp; omega⟩
 have HNW : Hid (∀ j u, [Value.int .u8 45][j]? = some u → X.cell? ((⟨w.heap.size + 1, 0, none⟩ : Addr).add j) = some u) := by rw [← HW.out.2.1, hX]; exact World.news_of_block (cs := #[.int .u8 45]) (t := 5) (fr := (0, 0)) (heap_alloc_new W _)
 go_enter Tryz.func103, Tryz.ntmps103
 go_wp2_with (at_builtin; rw [← hW, ← hX]; clear hW hX; refine wpList_append_own _ rfl _ _ 115 rfl w.heap.size 5 i0 (.int .u8 0) 1 1 Tryz.underlying115 hi hz0 hz1 hz2 rfl (by decide) (.slice none 0 0) 0 [] rfl (World.ownsRow_nil _ _ _ _) ⟨w.heap.size + 1, 0, none⟩ 1 1 [.int .u8 45] rfl rfl HNW.out (by simp [Value.oneCell']) (by unfold maxLen; omega) (by omega) HX.out.2 ?_; intro v0 Y hown0 hgrow0 hnil0)
 obtain ⟨vo, vc, rfl, _⟩ := owns_slice hown0
 have hkY : KeepT W Y := (KeepT.below HX.out.1).trans (KeepT.grown (World.ownsRow_nil X w.heap.size 5 1) hgrow0)
 have HY : Hid (Y.ownsRow w.heap.size 5 1 (.slice vo 1 vc) ([45] : List Int).length (([45] : List Int).map (Value.int .u8)) ∧ Below w.heap.size w Y ∧ Pow10B w.heap.size Y ∧ RowAt Y .u64 ao len cap (mag n)) := by
  have hbWY : Below W.heap.size W Y := (HX.out.1).grown hgrow0 HX.out.1.size (fun k hk => by cases hk)
  exact ⟨hown0, bnext HW.out.1 hbWY, HW.out.2.2.2.on (hbWY.mono HW.out.1.size), HR.out.later hbWY⟩
 clear hown0 hgrow0 hnil0
 obtain ⟨hc9, hc0⟩ := KS.out Y hkY
 have htens := tensUpTo_any ao len cap n Y.drew (HY.out.2.2.2.later (Below.refl _ _).drew) hl
 go_wp2
 go_region_with (first
   | (go_at_call 132; refine htens.mono ?_; rintro e w1 ⟨tv, m, rfl, hT, hn, _, hb1⟩; obtain ⟨xs, ho, _⟩ := hT.row; obtain ⟨tt0, tc, rfl, _⟩ := owns_slice ho; have hk1 : KeepT Y w1 := (KeepT.below (Below.refl _ _).drew).trans (KeepT.below hb1); have HT : Hid (TensAt Y.drew.heap.size w1 (.slice tt0 m tc) m 2000 ∧ n < ten m ∧ Below Y.heap.size Y w1 ∧ 19 * 2 ^ m ≤ 300000) := ⟨hT, hn, bnext (Below.refl _ _).drew hb1, tens_small hT⟩; clear hT hn hb1 ho; obtain ⟨hc8, hc1⟩ := KS.out _ (hkY.trans hk1))
   | (go_at_call 131; refine (appendDecimal_any m w.heap.size Y.drew.heap.size (.slice vo 1 vc) [45] ao len cap n tt0 tc false w1 (owns_later HY.out.1 HT.out.2.2.1) (Nat.le_trans HY.out.2.1.size HT.out.2.2.1.size) (HY.out.2.2.2.later HT.out.2.2.1) (by omega) HT.out.2.1 HT.out.1 (by have := HT.out.2.2.2; simp; omega) (HY.out.2.2.1.on (HT.out.2.2.1.mono HY.out.2.1.size))).mono ?_; rintro e w2 ⟨v2, rfl, hown2, hb2, hk2⟩; obtain ⟨N, hN⟩ : ∃ N : Nat, N = ([45] ++ decT false (19 * 2 ^ m) n).length := ⟨_, rfl⟩; rw [← hN] at hown2; obtain ⟨g2, c2, rfl, hcv⟩ := conv_owns hown2 hN (by rw [hN]; simp); clear hN; have HB2 : Hid (Below w.heap.size w w2) := (bnext HY.out.2.1 HT.out.2.2.1).trans hb2; clear hown2))
 all_goals go_wp2
 all_goals go_ret
 all_goals exact ⟨rfl, HB2.out⟩
theorem decimal_any (neg : Bool) (ao : Option Addr) (len cap : Nat) (a : Int) (w : World) (hx : IntAt w neg ao len cap a) (hl : len ≤ 1000) (htab : Pow10 w) :
  Calls Tryz.prog 103 #[.agg #[.bool neg, .slice ao len cap]] w fun e w' => e = .returned (.string (strOfNums (itext a))) ∧ Below w.heap.size w w' := by
 have hs := hx.sg
 unfold itext
 by_cases h : a < 0
 ·
  obtain rfl : neg = true := by rw [hs]; exact decide_eq_true h
  rw [if_pos h]
  exact decimal_neg ao len cap a.natAbs w hx.row hl htab
 ·
  obtain rfl : neg = false := by rw [hs]; exact decide_eq_false h
  rw [if_neg h]
  exact decimal_pos ao len cap a.natAbs w hx.row hl htab
theorem btext_any (neg : Bool) (ao : Option Addr) (len cap : Nat) (a : Int) (w : World) (hx : IntAt w neg ao len cap a) (hl : len ≤ 1000) (htab : Pow10 w) :
  Calls Tryz.prog 60 #[.agg #[.bool neg, .slice ao len cap]] w fun e w' => e = .returned (.string (strOfNums (itext a))) ∧ Below w.heap.size w w' := by
 obtain ⟨W, hW⟩ : ∃ W, W = w.alloc (.cells #[.bool neg, .slice ao len cap] 26) := ⟨_, rfl⟩
 have HW : Hid (Below w.heap.size w W ∧ Boxed W w.heap.size neg ao len cap ∧ w.heap.size < W.heap.size) := by rw [hW]; exact ⟨(Below.refl _ _).alloc (Nat.le_refl _) _, ⟨by simp [go_sem], by simp [go_sem]⟩, by simp⟩
 have HX : Hid (IntAt W neg ao len cap a ∧ Pow10 W) := ⟨hx.later HW.out.1, htab.later HW.out.1⟩
 have hM : Hid ((if mayB neg (mag a.natAbs) then 0 else 10 : Int) = 0) := hx.may
 clear hx htab
 go_enter Tryz.func60, Tryz.ntmps60
 go_wp2_with (first
  | (go_at_call 51; rw [← hW]; clear hW; refine (check_at neg ao len cap _ _ HX.out.1.row (by omega) 0 hM.out).mono ?_; rintro e w1 ⟨rfl, hb1⟩; obtain ⟨q0, q1⟩ := HW.out.2.1.later hb1 HW.out.2.2)
  | (go_at_call 103; refine (decimal_any neg ao len cap a w1 (HX.out.1.later hb1) hl (HX.out.2.later hb1)).mono ?_; rintro e w2 ⟨rfl, hb2⟩))
 go_ret
 exact ⟨rfl, bnext HW.out.1 (bnext hb1 hb2)⟩
end Go.Proofs.YtiiefpnkpfliiaaGreatDoor
namespace Go.Proofs.YtiiefpnkpfliiaaGreatDoor
open Go.RowKit
theorem dnums_len {n l : Nat} (h : l = (mag n).length) : (dnums n).length ≤ 20 * l + 1 := by
 have h1 : n < 18446744073709551616 ^ l := by
  have h2 := val_lt (q := 18446744073709551616) (by decide) (mag_wd n)
  rw [mag_val, ← h] at h2
  have h3 : ((18446744073709551616 ^ l : Nat) : Int) = (18446744073709551616 : Int) ^ l := by rw [Int.natCast_pow]; rfl
  rw [← h3] at h2
  exact Int.ofNat_lt.1 h2
 have h2 : 18446744073709551616 ^ l ≤ 10 ^ (20 * l) := by
  rw [Nat.pow_mul]
  exact Nat.pow_le_pow_left (by decide) _
 have h3 : 10 ^ (20 * l) ≤ 10 ^ (20 * l + 1) := Nat.pow_le_pow_right (by decide) (by omega)
 exact (dpad_is (20 * l) (u := n) (by omega)).1
end Go.Proofs.YtiiefpnkpfliiaaGreatDoor
namespace Go.Proofs.YtiiefpnkpfliiaaGreatDoor
open Go.RowKit
theorem byteAt_nums {xs : List Int} (h : Byt xs) {k : Nat} (hk : k < xs.length) : byteAt (strOfNums xs) k = (xs.getD k 0).toNat := by
 have hs : k < (strOfNums xs).size := by rw [strOfNums_size]; exact hk
 rw [byteAt_of hs]
 have e : (strOfNums xs)[k] = UInt8.ofNat (xs[k]).toNat := by
  show (strOfNums xs).data[k] = _
  simp [strOfNums]
 rw [e, UInt8.toNat_ofNat']
 have h1 := h _ (List.getElem_mem hk)
 have h2 : xs.getD k 0 = xs[k] := by simp [List.getD, hk]
 rw [h2]
 omega
theorem Byt.left {xs ys : List Int} (h : Byt (xs ++ ys)) : Byt xs := fun x hx => h x (List.mem_append_left _ hx)
theorem decVal_pre {xs ys : List Int} (h : Byt (xs ++ ys)) : ∀ {k : Nat}, k ≤ xs.length → decVal (strOfNums (xs ++ ys)) k = decVal (strOfNums xs) k := by
 intro k
 induction k with
 | zero => intro _; rfl
 | succ k ih =>
  intro hk
  rw [decVal, decVal, ih (by omega), byteAt_nums h (by simp; omega), byteAt_nums h.left (by omega)]
  have e : (xs ++ ys).getD k 0 = xs.getD k 0 := by
   rw [List.getD_eq_getElem?_getD, List.getD_eq_getElem?_getD, List.getElem?_append_left (by omega)]
  rw [e]
theorem dnums_tells : ∀ (b n : Nat), n ≤ b → decVal (strOfNums (dnums n)) (dnums n).length = n ∧ (∀ x ∈ dnums n, 48 ≤ x ∧ x ≤ 57) ∧ (n ≠ 0 → (dnums n).getD 0 0 ≠ 48) := by
 intro b
 induction b with
 | zero =>
  intro n hn
  obtain rfl : n = 0 := by omega
  refine ⟨by decide, fun x hx => ?_, fun h => absurd rfl h⟩
  simp [dnums] at hx; omega
 | succ b ih =>
  intro n hn
  by_cases h : n < 10
  ·
   rw [dnums_one h]
   refine ⟨?_, fun x hx => ?_, fun h0 => ?_⟩
   ·
    show decVal _ 1 = n
    rw [decVal, decVal, byteAt_nums (fun x hx => by simp at hx; omega) (by simp)]
    simp
    omega
   ·
    simp at hx; omega
   ·
    simp; omega
  ·
   obtain ⟨h1, h2, h3⟩ := ih (n / 10) (by omega)
   have hb : Byt (dnums (n / 10) ++ [48 + ((n % 10 : Nat) : Int)]) := by rw [← dnums_low (by omega)]; exact dnums_byt n
   rw [dnums_low (by omega)]
   refine ⟨?_, fun x hx => ?_, fun _ => ?_⟩
   ·
    rw [List.length_append, List.length_singleton, decVal, decVal_pre hb (Nat.le_refl _), h1, byteAt_nums hb (by simp)]
    have e : (dnums (n / 10) ++ [48 + ((n % 10 : Nat) : Int)]).getD (dnums (n / 10)).length 0 = 48 + ((n % 10 : Nat) : Int) := by
     rw [List.getD_eq_getElem?_getD, List.getElem?_append_right (Nat.le_refl _)]; simp
    rw [e]
    omega
   ·
    rcases List.mem_append.1 hx with hx | hx
    ·
     exact h2 x hx
    ·
     simp at hx; omega
   ·
    have e : (dnums (n / 10) ++ [48 + ((n % 10 : Nat) : Int)]).getD 0 0 = (dnums (n / 10)).getD 0 0 := by
     rw [List.getD_eq_getElem?_getD, List.getD_eq_getElem?_getD, List.getElem?_append_left (dnums_pos _)]
    rw [e]; exact h3 (by omega)
theorem dnums_dig {n : Nat} (h : (dnums n).length ≤ 1024) : Dig (strOfNums (dnums n)) ∧ decVal (strOfNums (dnums n)) (strOfNums (dnums n)).size = n ∧ byteAt (strOfNums (dnums n)) 0 ≠ 45 := by
 obtain ⟨h1, h2, h3⟩ := dnums_tells n n (Nat.le_refl _)
 have hb := dnums_byt n
 have hp := dnums_pos n
 have h0 := byteAt_nums hb hp
 have hm : ∀ j, j < (dnums n).length → 48 ≤ (dnums n).getD j 0 ∧ (dnums n).getD j 0 ≤ 57 := fun j hj => by
  have e : (dnums n).getD j 0 = (dnums n)[j] := by simp [List.getD, hj]
  rw [e]; exact h2 _ (List.getElem_mem hj)
 refine ⟨⟨fun j hj => ?_, by rw [strOfNums_size]; exact hp, by rw [strOfNums_size]; exact h, fun e => ?_⟩, by rw [strOfNums_size]; exact h1, ?_⟩
 ·
  rw [strOfNums_size] at hj
  rw [byteAt_nums hb hj]
  have := hm j hj
  omega
 ·
  rw [strOfNums_size]
  by_cases hn : n = 0
  ·
   subst hn; rfl
  ·
   exfalso
   rw [h0] at e
   have := hm 0 hp
   exact h3 hn (by omega)
 ·
  rw [h0]
  have := hm 0 hp
  omega
theorem minus_signed (T : List Int) : Signed (strOfNums (45 :: T)) ∧ (strOfNums (45 :: T)).extract 1 (strOfNums (45 :: T)).size = strOfNums T := by
 refine ⟨⟨by rw [strOfNums_size]; simp, ?_⟩, ?_⟩
 ·
  have hs : 0 < (strOfNums (45 :: T)).size := by rw [strOfNums_size]; simp
  rw [byteAt_of hs]
  have e : (strOfNums (45 :: T))[0] = 45 := by
   show (strOfNums (45 :: T)).data[0] = _
   simp [strOfNums]
  rw [e]; rfl
 ·
  apply ByteArray.ext
  rw [ByteArray.data_extract, strOfNums_size]
  apply Array.toList_inj.1
  simp [strOfNums]
  exact List.take_of_length_le (by simp)
theorem bparse_text (a : Int) (w : World) (hl : (dnums a.natAbs).length ≤ 1024) :
  Calls Tryz.prog 138 #[.string (strOfNums (itext a))] w fun e w' => ∃ n ao l c, e = .returned (.tuple #[.agg #[.bool n, .slice ao l c], .int .i64 0]) ∧ IntAt w' n ao l c a ∧ Below w.heap.size w w' := by
 obtain ⟨h1, h2, h3⟩ := dnums_dig hl
 have hsz : (strOfNums (itext a)).size ≤ 9223372036854775807 := by
  rw [strOfNums_size]; unfold itext; split <;> simp <;> omega
 by_cases h : a < 0
 ·
  have e : itext a = 45 :: dnums a.natAbs := by unfold itext; rw [if_pos h]; rfl
  obtain ⟨s1, s2⟩ := minus_signed (dnums a.natAbs)
  rw [e] at hsz ⊢
  refine (bparse_neg _ w hsz s1).mono fun e' w' hp => ?_
  rw [s2] at hp
  rcases hp.2 with ⟨n, ao, l, c, he, _, _, hi⟩ | ⟨_, hno⟩
  ·
   rw [h2] at hi
   have e2 : sgn true a.natAbs = a := by unfold sgn; rw [if_pos rfl]; omega
   rw [e2] at hi
   exact ⟨n, ao, l, c, he, hi, hp.1⟩
  ·
   exact absurd ⟨h1, fun _ => by rw [h2]; omega⟩ hno
 ·
  have e : itext a = dnums a.natAbs := by unfold itext; rw [if_neg h]; rfl
  rw [e] at hsz ⊢
  refine (bparse_plain _ w hsz (fun hs => h3 hs.2)).mono fun e' w' hp => ?_
  rcases hp.2 with ⟨n, ao, l, c, he, _, _, hi⟩ | ⟨_, hno⟩
  ·
   rw [h2] at hi
   have e2 : sgn false a.natAbs = a := by unfold sgn; rw [if_neg (by decide)]; omega
   rw [e2] at hi
   exact ⟨n, ao, l, c, he, hi, hp.1⟩
  ·
   exact absurd ⟨h1, fun hf => by cases hf⟩ hno
end Go.Proofs.YtiiefpnkpfliiaaGreatDoor
namespace Go.Proofs.YtiiefpnkpfliiaaGreatDoor
open Go.RowKit
def renIB : Go.Shelf.Ren := ⟨fun x => if x = 217 then 189 else 203, fun x => if x = 3 then 3 else if x = 5 then 5 else 9, fun x => x⟩
theorem lays217 : Lays.n217 Tryz.prog renIB := by
 constructor <;> first | (intro w; kernel_rfl) | kernel_rfl
theorem indexByte_at {X Y : List UInt8} {c : UInt8} (h : c ∉ X) : Lib.indexByte (X ++ c :: Y) c = (X.length : Int) := by
 induction X with
 | nil => simp [Lib.indexByte]
 | cons b l ih =>
  have h1 : c ∉ l := fun e => h (List.mem_cons_of_mem _ e)
  have h2 : (b == c) = false := by
   apply beq_false_of_ne
   intro e; subst e; exact h List.mem_cons_self
  rw [List.cons_append, Lib.indexByte, h2, ih h1]
  have : (((l.length : Int)) == -1) = false := by simp
  simp [this]
theorem indexByte_no {X : List UInt8} {c : UInt8} (h : c ∉ X) : Lib.indexByte X c = -1 := by
 induction X with
 | nil => rfl
 | cons b l ih =>
  have h1 : c ∉ l := fun e => h (List.mem_cons_of_mem _ e)
  have h2 : (b == c) = false := by
   apply beq_false_of_ne
   intro e; subst e; exact h List.mem_cons_self
  rw [Lib.indexByte, h2, ih h1]
  rfl
theorem indexOne_any (s : ByteArray) (w : World) (i : Int) (hi : Lib.indexByte s.data.toList 47 = i) :
  Calls Tryz.prog 171 #[.string s, .string ⟨#[47]⟩] w fun e w' => e = .returned (.int .i64 i) ∧ w' = w := by
 have hcon : ∀ X, Calls Tryz.prog 189 #[.string s, .int .u8 47] X fun e w' => e = .returned (.int .i64 i) ∧ w' = X := fun X => by
  have := Any.stringslite_IndexByte lays217 s 47 X
  rw [show (Int.toNat 47).toUInt8 = 47 from rfl, hi] at this
  exact this
 by_cases hs : s = ⟨#[47]⟩
 ·
  subst hs
  obtain rfl : i = 0 := by rw [← hi]; rfl
  clear hi hcon
  go_enter Tryz.func171, Tryz.ntmps171
  go_wp2
  go_ret
  exact ⟨rfl, rfl⟩
 ·
  have hne : (([47] : List UInt8) == s.toList) = false := by
   apply beq_false_of_ne
   intro e
   rw [Lib.toList_data] at e
   exact hs (ByteArray.ext (Array.toList_inj.1 e.symm))
  clear hs hi
  go_enter Tryz.func171, Tryz.ntmps171
  go_wp2_with (go_at_call 189; refine (hcon _).mono ?_; rintro e w1 ⟨rfl, rfl⟩)
  go_ret
  exact ⟨rfl, rfl⟩
theorem cutLite_hit (s x y : ByteArray) (n : Nat) (w : World) (hn : Lib.indexByte s.data.toList 47 = (n : Int)) (hl : n + 1 ≤ s.size) (hs : s.size ≤ 9223372036854775807) (hx : s.extract 0 n = x) (hy : s.extract (n + 1) s.size = y) :
  Calls Tryz.prog 151 #[.string s, .string ⟨#[47]⟩] w fun e w' => e = .returned (.tuple #[.string x, .string y, .bool true]) ∧ Below w.heap.size w w' := by
 have hcon := indexOne_any s w (n : Int) hn
 have c1 : (0 : Int) ≤ ↑n := by omega
 have c2 : (↑n : Int) ≤ ↑s.size := by omega
 have c3 : (0 : Int) ≤ ↑n + 1 := by omega
 have c4 : (↑n + 1 : Int) ≤ ↑s.size := by omega
 have c5 : IntKind.i64.wrap ((n : Int) + 1) = (n : Int) + 1 := by rw [IntKind.wrap_i64]; omega
 have c6 : ((n : Int) + 1).toNat = n + 1 := by omega
 have hb : Below w.heap.size w w.drew := (Below.refl _ _).drew
 clear hn
 go_enter Tryz.func151, Tryz.ntmps151
 go_wp2_with (go_at_call 171; refine hcon.mono ?_; rintro e w1 ⟨rfl, hw1⟩; replace hw1 := hw1.symm; subst hw1)
 go_quiet (fail)
 go_wp2
 go_ret3
 exact ⟨rfl, below_drewN (Below.refl _ _) _⟩
theorem cutLite_miss (s : ByteArray) (w : World) (hn : Lib.indexByte s.data.toList 47 = -1) :
  Calls Tryz.prog 151 #[.string s, .string ⟨#[47]⟩] w fun e w' => e = .returned (.tuple #[.string s, .string ⟨#[]⟩, .bool false]) ∧ Below w.heap.size w w' := by
 have hcon := indexOne_any s w (-1) hn
 clear hn
 go_enter Tryz.func151, Tryz.ntmps151
 go_wp2_with (go_at_call 171; refine hcon.mono ?_; rintro e w1 ⟨rfl, hw1⟩; replace hw1 := hw1.symm; subst hw1)
 go_ret3
 exact ⟨rfl, Below.refl _ _⟩
theorem bar_mem {x : ByteArray} {X Y : List UInt8} (e : x.data.toList = X ++ 47 :: Y) : x.extract 0 X.length = ⟨X.toArray⟩ ∧ x.extract (X.length + 1) x.size = ⟨Y.toArray⟩ ∧ X.length + 1 ≤ x.size := by
 have hs : x.size = X.length + 1 + Y.length := by
  have : x.size = x.data.toList.length := by rw [Array.length_toList]; rfl
  rw [this, e]; simp; omega
 refine ⟨?_, ?_, by omega⟩
 ·
  apply ByteArray.ext
  rw [ByteArray.data_extract]
  apply Array.toList_inj.1
  simp [e]
 ·
  apply ByteArray.ext
  rw [ByteArray.data_extract]
  apply Array.toList_inj.1
  rw [hs]
  simp [e]
theorem cut_hit (s : ByteArray) (X Y : List UInt8) (w : World) (e : s.data.toList = X ++ 47 :: Y) (h : (47 : UInt8) ∉ X) (hs : s.size ≤ 9223372036854775807) :
  Calls Tryz.prog 137 #[.string s, .string ⟨#[47]⟩] w fun e w' => e = .returned (.tuple #[.string ⟨X.toArray⟩, .string ⟨Y.toArray⟩, .bool true]) ∧ Below w.heap.size w w' := by
 obtain ⟨h1, h2, h3⟩ := bar_mem e
 have hcon := cutLite_hit s ⟨X.toArray⟩ ⟨Y.toArray⟩ X.length w (by rw [e]; exact indexByte_at h) h3 hs h1 h2
 generalize (⟨X.toArray⟩ : ByteArray) = x at hcon ⊢
 generalize (⟨Y.toArray⟩ : ByteArray) = y at hcon ⊢
 clear h1 h2 e
 go_enter Tryz.func137, Tryz.ntmps137
 go_wp2_with (go_at_call 151; refine hcon.mono ?_; rintro e w1 ⟨rfl, hb1⟩)
 go_ret3
 exact ⟨rfl, hb1⟩
theorem cut_miss (s : ByteArray) (w : World) (h : (47 : UInt8) ∉ s.data.toList) :
  Calls Tryz.prog 137 #[.string s, .string ⟨#[47]⟩] w fun e w' => e = .returned (.tuple #[.string s, .string ⟨#[]⟩, .bool false]) ∧ Below w.heap.size w w' := by
 have hcon := cutLite_miss s w (indexByte_no h)
 clear h
 go_enter Tryz.func137, Tryz.ntmps137
 go_wp2_with (go_at_call 151; refine hcon.mono ?_; rintro e w1 ⟨rfl, hb1⟩)
 go_ret3
 exact ⟨rfl, hb1⟩
end Go.Proofs.YtiiefpnkpfliiaaGreatDoor
