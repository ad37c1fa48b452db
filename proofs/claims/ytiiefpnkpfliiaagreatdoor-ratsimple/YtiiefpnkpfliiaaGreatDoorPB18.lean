/-
  HV, HW, HX.
-/
import Derived.Test.YtiiefpnkpfliiaaGreatDoorPB09
import Derived.Test.YtiiefpnkpfliiaaGreatDoorPB16
import Derived.Laws.Strings
import Derived.Shelf.Strings.Prefix
/- Walks: readDecimal. -/
namespace Go.Proofs.YtiiefpnkpfliiaaGreatDoor
open Go.RowKit
set_option linter.unusedVariables false
set_option linter.unusedSimpArgs false
/-- digits that big reads, of a text of sz bytes -/
def DigB (d : ByteArray) (sz : Nat) : Prop := (∀ j, j < d.size → 48 ≤ byteAt d j ∧ byteAt d j ≤ 57) ∧ 0 < d.size ∧ d.size ≤ 1024 ∧ (byteAt d 0 = 48 → sz ≤ 1)
/-- k digits are read: m makes M; word and unit = 10^j hold the rest -/
structure ReadSt (d : ByteArray) (sz k j M W : Nat) : Prop where
  dig : ∀ i, i < k → 48 ≤ byteAt d i ∧ byteAt d i ≤ 57
  top : 0 < k → byteAt d 0 = 48 → sz ≤ 1
  jl : j ≤ 18
  wl : W < 10 ^ j
  eq : M * 10 ^ j + W = decVal d k
  last : k = d.size → j = 0
theorem ReadSt.more {d : ByteArray} {sz k j M W t : Nat} (h : ReadSt d sz k j M W) (ht : t ≤ 9) (hx : byteAt d k = 48 + t) (h0 : k = 0 → t = 0 → sz ≤ 1) (hj : j + 1 ≤ 18) (hk : k + 1 < d.size) : ReadSt d sz (k + 1) (j + 1) M (W * 10 + t) := by
  refine ⟨fun i hi => ?_, fun _ e => ?_, hj, ?_, ?_, fun e => by omega⟩
  · by_cases e : i = k
    · subst e; omega
    · exact h.dig i (by omega)
  · by_cases e0 : k = 0
    · subst e0; exact h0 rfl (by omega)
    · exact h.top (by omega) e
  · have := h.wl; rw [Nat.pow_succ]; omega
  · have := h.eq; rw [decVal, ← this, hx, Nat.pow_succ, Nat.add_sub_cancel_left]; grind
theorem ReadSt.flush {d : ByteArray} {sz k j M W t : Nat} (h : ReadSt d sz k j M W) (ht : t ≤ 9) (hx : byteAt d k = 48 + t) (h0 : k = 0 → t = 0 → sz ≤ 1) : ReadSt d sz (k + 1) 0 (M * 10 ^ (j + 1) + (W * 10 + t)) 0 := by
  refine ⟨fun i hi => ?_, fun _ e => ?_, by omega, by decide, ?_, fun _ => rfl⟩
  · by_cases e : i = k
    · subst e; omega
    · exact h.dig i (by omega)
  · by_cases e0 : k = 0
    · subst e0; exact h0 rfl (by omega)
    · exact h.top (by omega) e
  · have := h.eq; rw [decVal, ← this, hx, Nat.pow_succ, Nat.add_sub_cancel_left]; grind
theorem ReadSt.len {d : ByteArray} {sz k j M W : Nat} (h : ReadSt d sz k j M W) (hk : k ≤ 1024) : (mag M).length ≤ 1024 := by
  have h1 : decVal d k < 10 ^ k := by
    have : ∀ i, i ≤ k → decVal d i < 10 ^ i := by
      intro i
      induction i with
      | zero => intro _; simp [decVal]
      | succ i ih =>
        intro hi
        have h2 := ih (by omega)
        have h3 := h.dig i (by omega)
        rw [decVal, Nat.pow_succ]; omega
    exact this k (Nat.le_refl _)
  have h2 : 10 ^ k ≤ 2 ^ (64 * k) := by rw [Nat.pow_mul]; exact Nat.pow_le_pow_left (by decide) _
  have h3 : M ≤ decVal d k := by
    rw [← h.eq]
    exact Nat.le_trans (Nat.le_mul_of_pos_right _ (Nat.pow_pos (by decide))) (Nat.le_add_right _ _)
  exact Nat.le_trans (two_len (l := 64 * k) (Nat.lt_of_le_of_lt h3 (Nat.lt_of_lt_of_le h1 h2)) (Nat.le_refl _)) hk
end Go.Proofs.YtiiefpnkpfliiaaGreatDoor
/- Walks: readDecimal. -/
namespace Go.Proofs.YtiiefpnkpfliiaaGreatDoor
open Go.RowKit
set_option linter.unusedVariables false
set_option linter.unusedSimpArgs false
theorem ofLimb_at (n : Nat) (v : Int) (w : World) (hv : v = (n : Int)) (hn : n < 18446744073709551616) :
    Calls Tryz.prog 112 #[.int .u64 v] w fun e w' => NewNat w w' e n := by
  subst hv; exact ofLimb_any n w hn
/-- what readDecimal tells -/
def ReadOut (d : ByteArray) (sz : Nat) (w w' : World) (e : Ending) : Prop :=
  Below w.heap.size w w' ∧ ((∃ ao l c, e = .returned (.tuple #[.slice ao l c, .bool true]) ∧ DigB d sz ∧ Own w.heap.size w' .u64 59 ao l c (mag (decVal d d.size))) ∨ (e = .returned (.tuple #[.slice none 0 0, .bool false]) ∧ ¬ DigB d sz))
set_option maxRecDepth 100000 in
set_option maxHeartbeats 8000000 in
theorem readDecimal_any (s d : ByteArray) (w : World) (hcon : Calls Tryz.prog 172 #[.string s, .string ⟨#[45]⟩] w fun e w' => e = .returned (.string d) ∧ w' = w) (hs : s.size ≤ 9223372036854775807) (hds : d.size ≤ s.size) :
    Calls Tryz.prog 152 #[.string s] w fun e w' => ReadOut d s.size w w' e := by
  have HM : Hid (mag 0 = []) := mag_of (Wd.nil _) Can.nil rfl
  by_cases c0 : d.size = 0
  · have hd0 : d = ⟨#[]⟩ := by
      cases d with
      | mk a => congr; exact Array.eq_empty_of_size_eq_zero c0
    have HN : Hid (¬ DigB d s.size) := fun h => by have := h.2.1; omega
    subst hd0
    go_enter Tryz.func152, Tryz.ntmps152
    go_wp2_with (go_at_call 172; refine hcon.mono ?_; rintro e w1 ⟨rfl, hw1⟩; replace hw1 := hw1.symm; subst hw1)
    go_ret2
    exact ⟨Below.refl _ _, Or.inr ⟨rfl, HN.out⟩⟩
  · have hne : d.toList.isEmpty = false := by
      rw [ByteArray.toList_eq]
      cases hl : d.data.toList with
      | nil => exact absurd (show d.data.size = 0 by rw [← Array.length_toList, hl]; rfl) c0
      | cons _ _ => rfl
    by_cases c1 : d.size ≤ 1024
    · have c1' : ¬ (1024 : Int) < (d.size : Int) := by omega
      go_enter Tryz.func152, Tryz.ntmps152
      go_wp2_with (go_at_call 172; refine hcon.mono ?_; rintro e w1 ⟨rfl, hw1⟩; replace hw1 := hw1.symm; subst hw1)
      go_loopw [5, 6, 7, 21] (fun m wd u i wr => ∃ (k j M W U : Nat) (ao : Option Addr) (l c : Nat), k ≤ d.size ∧ i = .int .i64 k ∧ m = .slice ao l c ∧ wd = .int .u64 (W : Int) ∧ u = .int .u64 (U : Int) ∧ Hid (U = 10 ^ j) ∧ Hid (ReadSt d s.size k j M W) ∧ Hid (Own w.heap.size wr .u64 59 ao l c (mag M)) ∧ Below w.heap.size w wr) (fun _ _ _ i _ => d.size - (intOf i).toNat)
      case atStart => exact ⟨0, 0, 0, 0, 1, none, 0, 0, Nat.zero_le _, rfl, rfl, rfl, rfl, rfl, ⟨fun i h => by omega, fun h => by omega, by omega, by decide, by simp [decVal], fun _ => rfl⟩, by show Own _ _ _ _ _ _ _ _; rw [HM.out]; exact Own.none_, Below.refl _ _⟩
      case round =>
        obtain ⟨k, j, M, W, U, ao, l, c, hk, rfl, rfl, rfl, rfl, HU, HS, HO, hbel⟩ := hrel
        have hj := HS.out.jl
        have hW : W < U := by rw [HU.out]; exact HS.out.wl
        have hten : U ≤ 1000000000000000000 := by rw [HU.out]; exact Nat.le_trans (Nat.pow_le_pow_right (n := 10) (by decide) hj) (by decide)
        have HU18 : Hid (U = 1000000000000000000 → j = 18) := fun e => by
          by_cases h : j = 18
          · exact h
          · have h2 : 10 ^ j ≤ 10 ^ 17 := Nat.pow_le_pow_right (by decide) (by omega)
            have h3 := HU.out
            omega
        have HU17 : Hid (U < 1000000000000000000 → j ≤ 17) := fun e => by
          by_cases h : j = 18
          · subst h; have h3 := HU.out; omega
          · omega
        have hl : l ≤ 1024 := by rw [HO.out.row.hlen]; exact HS.out.len (by omega)
        by_cases hlt : k < d.size
        · have hbk := byteAt_of hlt
          by_cases hdg : 48 ≤ byteAt d k ∧ byteAt d k ≤ 57
          · obtain ⟨t, ht⟩ : ∃ t, byteAt d k = 48 + t := ⟨byteAt d k - 48, by omega⟩
            have ht9 : t ≤ 9 := by omega
            by_cases hz : t = 0 ∧ k = 0 ∧ 1 < s.size
            · obtain ⟨rfl, rfl, hz3⟩ := hz
              have hx' : (d[0].toNat : Int) = 48 := by omega
              have hz' : (1 : Int) < (s.size : Int) := by omega
              have HN : Hid (¬ DigB d s.size) := fun h => by have := h.2.2.2 (by omega); omega
              clear ht hbk hdg
              go_wp2
              go_ret2
              exact ⟨hbel, Or.inr ⟨rfl, HN.out⟩⟩
            · have H0 : Hid (k = 0 → t = 0 → s.size ≤ 1) := fun h1 h2 => by
                by_cases h3 : 1 < s.size
                · exact absurd ⟨h2, h1, h3⟩ hz
                · omega
              have HX : Hid (byteAt d k = 48 + t) := ht
              have hz1 : ¬ (t = 0 ∧ k = 0 ∧ 1 < s.size) := hz
              clear hz hz1
              obtain rfl | rfl | rfl | rfl | rfl | rfl | rfl | rfl | rfl | rfl : t = 0 ∨ t = 1 ∨ t = 2 ∨ t = 3 ∨ t = 4 ∨ t = 5 ∨ t = 6 ∨ t = 7 ∨ t = 8 ∨ t = 9 := by omega
              · have hx' : (d[k].toNat : Int) = 48 := by omega
                clear ht hbk hdg
                by_cases hk0 : k = 0
                · subst hk0
                  have hz' : ¬ (1 : Int) < (s.size : Int) := by have := H0.out rfl rfl; omega
                  by_cases hu : U < 1000000000000000000
                  · have hu' : (((U : Int) * 10) == 10000000000000000000) = false := by simp; omega
                    by_cases hk1 : 0 + 1 < d.size
                    · have hk1' : (((0 : Nat) : Int) == (d.size : Int) - 1) = false := (by simp <;> omega)
                      exact absurd hk1 (by omega)
                    · have hk1' : (((0 : Nat) : Int) == (d.size : Int) - 1) = true := by simp; omega
                      have hO := one_row' wr (U * 10) ((U : Int) * 10) (by omega) (by omega) (by omega)
                      have HO1 : Hid (Own wr.heap.size (wr.alloc (.cells #[.int .u64 ((U : Int) * 10)] 59)) .u64 59 (some ⟨wr.heap.size, 0, none⟩) 1 1 (mag (U * 10)) ∧ Below wr.heap.size wr (wr.alloc (.cells #[.int .u64 ((U : Int) * 10)] 59))) := hO
                      clear hO
                      go_wp2_with (first
                        | (go_at_call 149; refine (times_any ao (some ⟨wr.heap.size, 0, none⟩) l c 1 1 M (U * 10) _ (HO.out.row.later HO1.out.2) HO1.out.1.row (by omega) (by omega)).mono ?_; rintro e y1 ⟨o1, l1, c1, rfl, hr1, hb1⟩; have hl1 : l1 ≤ 2000 := (by rw [hr1.row.hlen]; have q1 := mag_len_mul M (U * 10); have q2 := HO1.out.1.row.hlen; have q3 := HO.out.row.hlen; omega))
                        | (go_at_call 112; refine (ofLimb_at (W * 10 + 0) _ _ (by omega) (by omega)).mono ?_; rintro e y2 ⟨o2, l2, c2, rfl, hr2, hb2⟩; have hl2 : l2 ≤ 1 := (by rw [hr2.row.hlen]; exact mag_len_one (by omega)))
                        | (go_at_call 129; refine (plus_any o1 o2 l1 c1 l2 c2 (M * (U * 10)) (W * 10 + 0) _ (hr1.row.later hb2) hr2.row (by omega) (by omega)).mono ?_; rintro e y3 ⟨o3, l3, c3, rfl, hr3, hb3⟩; have HB3 : Hid (Below wr.heap.size wr y3) := bnext (bnext (bnext HO1.out.2 hb1) hb2) hb3; have hs2 : wr.heap.size ≤ y2.heap.size := (bnext (bnext HO1.out.2 hb1) hb2).size))
                      go_roundw
                      case rel => exact ⟨0 + 1, 0, M * (U * 10) + (W * 10 + 0), 0, 1, _, _, _, by omega, congrArg (Value.int .i64) (by omega), rfl, rfl, rfl, rfl, (by rw [HU.out]; exact HS.out.flush (by decide) HX.out (fun a b => H0.out (by first | exact a | trivial) (by first | exact b | trivial))), hr3.mono (Nat.le_trans hbel.size hs2), hbel.trans (HB3.out.mono hbel.size)⟩
                      case measure => (simp [intOf]) <;> omega
                  · have hu' : (((U : Int) * 10) == 10000000000000000000) = true := by simp; omega
                    have hO := one_row' wr (U * 10) ((U : Int) * 10) (by omega) (by omega) (by omega)
                    have HO1 : Hid (Own wr.heap.size (wr.alloc (.cells #[.int .u64 ((U : Int) * 10)] 59)) .u64 59 (some ⟨wr.heap.size, 0, none⟩) 1 1 (mag (U * 10)) ∧ Below wr.heap.size wr (wr.alloc (.cells #[.int .u64 ((U : Int) * 10)] 59))) := hO
                    clear hO
                    go_wp2_with (first
                      | (go_at_call 149; refine (times_any ao (some ⟨wr.heap.size, 0, none⟩) l c 1 1 M (U * 10) _ (HO.out.row.later HO1.out.2) HO1.out.1.row (by omega) (by omega)).mono ?_; rintro e y1 ⟨o1, l1, c1, rfl, hr1, hb1⟩; have hl1 : l1 ≤ 2000 := (by rw [hr1.row.hlen]; have q1 := mag_len_mul M (U * 10); have q2 := HO1.out.1.row.hlen; have q3 := HO.out.row.hlen; omega))
                      | (go_at_call 112; refine (ofLimb_at (W * 10 + 0) _ _ (by omega) (by omega)).mono ?_; rintro e y2 ⟨o2, l2, c2, rfl, hr2, hb2⟩; have hl2 : l2 ≤ 1 := (by rw [hr2.row.hlen]; exact mag_len_one (by omega)))
                      | (go_at_call 129; refine (plus_any o1 o2 l1 c1 l2 c2 (M * (U * 10)) (W * 10 + 0) _ (hr1.row.later hb2) hr2.row (by omega) (by omega)).mono ?_; rintro e y3 ⟨o3, l3, c3, rfl, hr3, hb3⟩; have HB3 : Hid (Below wr.heap.size wr y3) := bnext (bnext (bnext HO1.out.2 hb1) hb2) hb3; have hs2 : wr.heap.size ≤ y2.heap.size := (bnext (bnext HO1.out.2 hb1) hb2).size))
                    go_roundw
                    case rel => exact ⟨0 + 1, 0, M * (U * 10) + (W * 10 + 0), 0, 1, _, _, _, by omega, congrArg (Value.int .i64) (by omega), rfl, rfl, rfl, rfl, (by rw [HU.out]; exact HS.out.flush (by decide) HX.out (fun a b => H0.out (by first | exact a | trivial) (by first | exact b | trivial))), hr3.mono (Nat.le_trans hbel.size hs2), hbel.trans (HB3.out.mono hbel.size)⟩
                    case measure => (simp [intOf]) <;> omega
                · have hk0' : ((k : Int) == 0) = false := by simp; omega
                  by_cases hu : U < 1000000000000000000
                  · have hu' : (((U : Int) * 10) == 10000000000000000000) = false := by simp; omega
                    by_cases hk1 : k + 1 < d.size
                    · have hk1' : (((k : Nat) : Int) == (d.size : Int) - 1) = false := (by simp <;> omega)
                      go_wp2
                      go_roundw
                      case rel => exact ⟨k + 1, j + 1, M, W * 10 + 0, U * 10, _, _, _, by omega, congrArg (Value.int .i64) (by omega), rfl, congrArg (Value.int .u64) (by omega), congrArg (Value.int .u64) (by omega), (by show _ = _; rw [HU.out, Nat.pow_succ]), HS.out.more (by decide) HX.out (fun a b => H0.out (by first | exact a | trivial) (by first | exact b | trivial)) (by have := HU17.out hu; omega) (by omega), HO, hbel⟩
                      case measure => (simp [intOf]) <;> omega
                    · have hk1' : (((k : Nat) : Int) == (d.size : Int) - 1) = true := by simp; omega
                      have hO := one_row' wr (U * 10) ((U : Int) * 10) (by omega) (by omega) (by omega)
                      have HO1 : Hid (Own wr.heap.size (wr.alloc (.cells #[.int .u64 ((U : Int) * 10)] 59)) .u64 59 (some ⟨wr.heap.size, 0, none⟩) 1 1 (mag (U * 10)) ∧ Below wr.heap.size wr (wr.alloc (.cells #[.int .u64 ((U : Int) * 10)] 59))) := hO
                      clear hO
                      go_wp2_with (first
                        | (go_at_call 149; refine (times_any ao (some ⟨wr.heap.size, 0, none⟩) l c 1 1 M (U * 10) _ (HO.out.row.later HO1.out.2) HO1.out.1.row (by omega) (by omega)).mono ?_; rintro e y1 ⟨o1, l1, c1, rfl, hr1, hb1⟩; have hl1 : l1 ≤ 2000 := (by rw [hr1.row.hlen]; have q1 := mag_len_mul M (U * 10); have q2 := HO1.out.1.row.hlen; have q3 := HO.out.row.hlen; omega))
                        | (go_at_call 112; refine (ofLimb_at (W * 10 + 0) _ _ (by omega) (by omega)).mono ?_; rintro e y2 ⟨o2, l2, c2, rfl, hr2, hb2⟩; have hl2 : l2 ≤ 1 := (by rw [hr2.row.hlen]; exact mag_len_one (by omega)))
                        | (go_at_call 129; refine (plus_any o1 o2 l1 c1 l2 c2 (M * (U * 10)) (W * 10 + 0) _ (hr1.row.later hb2) hr2.row (by omega) (by omega)).mono ?_; rintro e y3 ⟨o3, l3, c3, rfl, hr3, hb3⟩; have HB3 : Hid (Below wr.heap.size wr y3) := bnext (bnext (bnext HO1.out.2 hb1) hb2) hb3; have hs2 : wr.heap.size ≤ y2.heap.size := (bnext (bnext HO1.out.2 hb1) hb2).size))
                      go_roundw
                      case rel => exact ⟨k + 1, 0, M * (U * 10) + (W * 10 + 0), 0, 1, _, _, _, by omega, congrArg (Value.int .i64) (by omega), rfl, rfl, rfl, rfl, (by rw [HU.out]; exact HS.out.flush (by decide) HX.out (fun a b => H0.out (by first | exact a | trivial) (by first | exact b | trivial))), hr3.mono (Nat.le_trans hbel.size hs2), hbel.trans (HB3.out.mono hbel.size)⟩
                      case measure => (simp [intOf]) <;> omega
                  · have hu' : (((U : Int) * 10) == 10000000000000000000) = true := by simp; omega
                    have hO := one_row' wr (U * 10) ((U : Int) * 10) (by omega) (by omega) (by omega)
                    have HO1 : Hid (Own wr.heap.size (wr.alloc (.cells #[.int .u64 ((U : Int) * 10)] 59)) .u64 59 (some ⟨wr.heap.size, 0, none⟩) 1 1 (mag (U * 10)) ∧ Below wr.heap.size wr (wr.alloc (.cells #[.int .u64 ((U : Int) * 10)] 59))) := hO
                    clear hO
                    go_wp2_with (first
                      | (go_at_call 149; refine (times_any ao (some ⟨wr.heap.size, 0, none⟩) l c 1 1 M (U * 10) _ (HO.out.row.later HO1.out.2) HO1.out.1.row (by omega) (by omega)).mono ?_; rintro e y1 ⟨o1, l1, c1, rfl, hr1, hb1⟩; have hl1 : l1 ≤ 2000 := (by rw [hr1.row.hlen]; have q1 := mag_len_mul M (U * 10); have q2 := HO1.out.1.row.hlen; have q3 := HO.out.row.hlen; omega))
                      | (go_at_call 112; refine (ofLimb_at (W * 10 + 0) _ _ (by omega) (by omega)).mono ?_; rintro e y2 ⟨o2, l2, c2, rfl, hr2, hb2⟩; have hl2 : l2 ≤ 1 := (by rw [hr2.row.hlen]; exact mag_len_one (by omega)))
                      | (go_at_call 129; refine (plus_any o1 o2 l1 c1 l2 c2 (M * (U * 10)) (W * 10 + 0) _ (hr1.row.later hb2) hr2.row (by omega) (by omega)).mono ?_; rintro e y3 ⟨o3, l3, c3, rfl, hr3, hb3⟩; have HB3 : Hid (Below wr.heap.size wr y3) := bnext (bnext (bnext HO1.out.2 hb1) hb2) hb3; have hs2 : wr.heap.size ≤ y2.heap.size := (bnext (bnext HO1.out.2 hb1) hb2).size))
                    go_roundw
                    case rel => exact ⟨k + 1, 0, M * (U * 10) + (W * 10 + 0), 0, 1, _, _, _, by omega, congrArg (Value.int .i64) (by omega), rfl, rfl, rfl, rfl, (by rw [HU.out]; exact HS.out.flush (by decide) HX.out (fun a b => H0.out (by first | exact a | trivial) (by first | exact b | trivial))), hr3.mono (Nat.le_trans hbel.size hs2), hbel.trans (HB3.out.mono hbel.size)⟩
                    case measure => (simp [intOf]) <;> omega
              · have hx' : (d[k].toNat : Int) = 49 := by omega
                clear ht hbk hdg
                by_cases hu : U < 1000000000000000000
                · have hu' : (((U : Int) * 10) == 10000000000000000000) = false := by simp; omega
                  by_cases hk1 : k + 1 < d.size
                  · have hk1' : (((k : Nat) : Int) == (d.size : Int) - 1) = false := (by simp <;> omega)
                    go_wp2
                    go_roundw
                    case rel => exact ⟨k + 1, j + 1, M, W * 10 + 1, U * 10, _, _, _, by omega, congrArg (Value.int .i64) (by omega), rfl, congrArg (Value.int .u64) (by omega), congrArg (Value.int .u64) (by omega), (by show _ = _; rw [HU.out, Nat.pow_succ]), HS.out.more (by decide) HX.out (fun a b => H0.out (by first | exact a | trivial) (by first | exact b | trivial)) (by have := HU17.out hu; omega) (by omega), HO, hbel⟩
                    case measure => (simp [intOf]) <;> omega
                  · have hk1' : (((k : Nat) : Int) == (d.size : Int) - 1) = true := by simp; omega
                    have hO := one_row' wr (U * 10) ((U : Int) * 10) (by omega) (by omega) (by omega)
                    have HO1 : Hid (Own wr.heap.size (wr.alloc (.cells #[.int .u64 ((U : Int) * 10)] 59)) .u64 59 (some ⟨wr.heap.size, 0, none⟩) 1 1 (mag (U * 10)) ∧ Below wr.heap.size wr (wr.alloc (.cells #[.int .u64 ((U : Int) * 10)] 59))) := hO
                    clear hO
                    go_wp2_with (first
                      | (go_at_call 149; refine (times_any ao (some ⟨wr.heap.size, 0, none⟩) l c 1 1 M (U * 10) _ (HO.out.row.later HO1.out.2) HO1.out.1.row (by omega) (by omega)).mono ?_; rintro e y1 ⟨o1, l1, c1, rfl, hr1, hb1⟩; have hl1 : l1 ≤ 2000 := (by rw [hr1.row.hlen]; have q1 := mag_len_mul M (U * 10); have q2 := HO1.out.1.row.hlen; have q3 := HO.out.row.hlen; omega))
                      | (go_at_call 112; refine (ofLimb_at (W * 10 + 1) _ _ (by omega) (by omega)).mono ?_; rintro e y2 ⟨o2, l2, c2, rfl, hr2, hb2⟩; have hl2 : l2 ≤ 1 := (by rw [hr2.row.hlen]; exact mag_len_one (by omega)))
                      | (go_at_call 129; refine (plus_any o1 o2 l1 c1 l2 c2 (M * (U * 10)) (W * 10 + 1) _ (hr1.row.later hb2) hr2.row (by omega) (by omega)).mono ?_; rintro e y3 ⟨o3, l3, c3, rfl, hr3, hb3⟩; have HB3 : Hid (Below wr.heap.size wr y3) := bnext (bnext (bnext HO1.out.2 hb1) hb2) hb3; have hs2 : wr.heap.size ≤ y2.heap.size := (bnext (bnext HO1.out.2 hb1) hb2).size))
                    go_roundw
                    case rel => exact ⟨k + 1, 0, M * (U * 10) + (W * 10 + 1), 0, 1, _, _, _, by omega, congrArg (Value.int .i64) (by omega), rfl, rfl, rfl, rfl, (by rw [HU.out]; exact HS.out.flush (by decide) HX.out (fun a b => H0.out (by first | exact a | trivial) (by first | exact b | trivial))), hr3.mono (Nat.le_trans hbel.size hs2), hbel.trans (HB3.out.mono hbel.size)⟩
                    case measure => (simp [intOf]) <;> omega
                · have hu' : (((U : Int) * 10) == 10000000000000000000) = true := by simp; omega
                  have hO := one_row' wr (U * 10) ((U : Int) * 10) (by omega) (by omega) (by omega)
                  have HO1 : Hid (Own wr.heap.size (wr.alloc (.cells #[.int .u64 ((U : Int) * 10)] 59)) .u64 59 (some ⟨wr.heap.size, 0, none⟩) 1 1 (mag (U * 10)) ∧ Below wr.heap.size wr (wr.alloc (.cells #[.int .u64 ((U : Int) * 10)] 59))) := hO
                  clear hO
                  go_wp2_with (first
                    | (go_at_call 149; refine (times_any ao (some ⟨wr.heap.size, 0, none⟩) l c 1 1 M (U * 10) _ (HO.out.row.later HO1.out.2) HO1.out.1.row (by omega) (by omega)).mono ?_; rintro e y1 ⟨o1, l1, c1, rfl, hr1, hb1⟩; have hl1 : l1 ≤ 2000 := (by rw [hr1.row.hlen]; have q1 := mag_len_mul M (U * 10); have q2 := HO1.out.1.row.hlen; have q3 := HO.out.row.hlen; omega))
                    | (go_at_call 112; refine (ofLimb_at (W * 10 + 1) _ _ (by omega) (by omega)).mono ?_; rintro e y2 ⟨o2, l2, c2, rfl, hr2, hb2⟩; have hl2 : l2 ≤ 1 := (by rw [hr2.row.hlen]; exact mag_len_one (by omega)))
                    | (go_at_call 129; refine (plus_any o1 o2 l1 c1 l2 c2 (M * (U * 10)) (W * 10 + 1) _ (hr1.row.later hb2) hr2.row (by omega) (by omega)).mono ?_; rintro e y3 ⟨o3, l3, c3, rfl, hr3, hb3⟩; have HB3 : Hid (Below wr.heap.size wr y3) := bnext (bnext (bnext HO1.out.2 hb1) hb2) hb3; have hs2 : wr.heap.size ≤ y2.heap.size := (bnext (bnext HO1.out.2 hb1) hb2).size))
                  go_roundw
                  case rel => exact ⟨k + 1, 0, M * (U * 10) + (W * 10 + 1), 0, 1, _, _, _, by omega, congrArg (Value.int .i64) (by omega), rfl, rfl, rfl, rfl, (by rw [HU.out]; exact HS.out.flush (by decide) HX.out (fun a b => H0.out (by first | exact a | trivial) (by first | exact b | trivial))), hr3.mono (Nat.le_trans hbel.size hs2), hbel.trans (HB3.out.mono hbel.size)⟩
                  case measure => (simp [intOf]) <;> omega
              · have hx' : (d[k].toNat : Int) = 50 := by omega
                clear ht hbk hdg
                by_cases hu : U < 1000000000000000000
                · have hu' : (((U : Int) * 10) == 10000000000000000000) = false := by simp; omega
                  by_cases hk1 : k + 1 < d.size
                  · have hk1' : (((k : Nat) : Int) == (d.size : Int) - 1) = false := (by simp <;> omega)
                    go_wp2
                    go_roundw
                    case rel => exact ⟨k + 1, j + 1, M, W * 10 + 2, U * 10, _, _, _, by omega, congrArg (Value.int .i64) (by omega), rfl, congrArg (Value.int .u64) (by omega), congrArg (Value.int .u64) (by omega), (by show _ = _; rw [HU.out, Nat.pow_succ]), HS.out.more (by decide) HX.out (fun a b => H0.out (by first | exact a | trivial) (by first | exact b | trivial)) (by have := HU17.out hu; omega) (by omega), HO, hbel⟩
                    case measure => (simp [intOf]) <;> omega
                  · have hk1' : (((k : Nat) : Int) == (d.size : Int) - 1) = true := by simp; omega
                    have hO := one_row' wr (U * 10) ((U : Int) * 10) (by omega) (by omega) (by omega)
                    have HO1 : Hid (Own wr.heap.size (wr.alloc (.cells #[.int .u64 ((U : Int) * 10)] 59)) .u64 59 (some ⟨wr.heap.size, 0, none⟩) 1 1 (mag (U * 10)) ∧ Below wr.heap.size wr (wr.alloc (.cells #[.int .u64 ((U : Int) * 10)] 59))) := hO
                    clear hO
                    go_wp2_with (first
                      | (go_at_call 149; refine (times_any ao (some ⟨wr.heap.size, 0, none⟩) l c 1 1 M (U * 10) _ (HO.out.row.later HO1.out.2) HO1.out.1.row (by omega) (by omega)).mono ?_; rintro e y1 ⟨o1, l1, c1, rfl, hr1, hb1⟩; have hl1 : l1 ≤ 2000 := (by rw [hr1.row.hlen]; have q1 := mag_len_mul M (U * 10); have q2 := HO1.out.1.row.hlen; have q3 := HO.out.row.hlen; omega))
                      | (go_at_call 112; refine (ofLimb_at (W * 10 + 2) _ _ (by omega) (by omega)).mono ?_; rintro e y2 ⟨o2, l2, c2, rfl, hr2, hb2⟩; have hl2 : l2 ≤ 1 := (by rw [hr2.row.hlen]; exact mag_len_one (by omega)))
                      | (go_at_call 129; refine (plus_any o1 o2 l1 c1 l2 c2 (M * (U * 10)) (W * 10 + 2) _ (hr1.row.later hb2) hr2.row (by omega) (by omega)).mono ?_; rintro e y3 ⟨o3, l3, c3, rfl, hr3, hb3⟩; have HB3 : Hid (Below wr.heap.size wr y3) := bnext (bnext (bnext HO1.out.2 hb1) hb2) hb3; have hs2 : wr.heap.size ≤ y2.heap.size := (bnext (bnext HO1.out.2 hb1) hb2).size))
                    go_roundw
                    case rel => exact ⟨k + 1, 0, M * (U * 10) + (W * 10 + 2), 0, 1, _, _, _, by omega, congrArg (Value.int .i64) (by omega), rfl, rfl, rfl, rfl, (by rw [HU.out]; exact HS.out.flush (by decide) HX.out (fun a b => H0.out (by first | exact a | trivial) (by first | exact b | trivial))), hr3.mono (Nat.le_trans hbel.size hs2), hbel.trans (HB3.out.mono hbel.size)⟩
                    case measure => (simp [intOf]) <;> omega
                · have hu' : (((U : Int) * 10) == 10000000000000000000) = true := by simp; omega
                  have hO := one_row' wr (U * 10) ((U : Int) * 10) (by omega) (by omega) (by omega)
                  have HO1 : Hid (Own wr.heap.size (wr.alloc (.cells #[.int .u64 ((U : Int) * 10)] 59)) .u64 59 (some ⟨wr.heap.size, 0, none⟩) 1 1 (mag (U * 10)) ∧ Below wr.heap.size wr (wr.alloc (.cells #[.int .u64 ((U : Int) * 10)] 59))) := hO
                  clear hO
                  go_wp2_with (first
                    | (go_at_call 149; refine (times_any ao (some ⟨wr.heap.size, 0, none⟩) l c 1 1 M (U * 10) _ (HO.out.row.later HO1.out.2) HO1.out.1.row (by omega) (by omega)).mono ?_; rintro e y1 ⟨o1, l1, c1, rfl, hr1, hb1⟩; have hl1 : l1 ≤ 2000 := (by rw [hr1.row.hlen]; have q1 := mag_len_mul M (U * 10); have q2 := HO1.out.1.row.hlen; have q3 := HO.out.row.hlen; omega))
                    | (go_at_call 112; refine (ofLimb_at (W * 10 + 2) _ _ (by omega) (by omega)).mono ?_; rintro e y2 ⟨o2, l2, c2, rfl, hr2, hb2⟩; have hl2 : l2 ≤ 1 := (by rw [hr2.row.hlen]; exact mag_len_one (by omega)))
                    | (go_at_call 129; refine (plus_any o1 o2 l1 c1 l2 c2 (M * (U * 10)) (W * 10 + 2) _ (hr1.row.later hb2) hr2.row (by omega) (by omega)).mono ?_; rintro e y3 ⟨o3, l3, c3, rfl, hr3, hb3⟩; have HB3 : Hid (Below wr.heap.size wr y3) := bnext (bnext (bnext HO1.out.2 hb1) hb2) hb3; have hs2 : wr.heap.size ≤ y2.heap.size := (bnext (bnext HO1.out.2 hb1) hb2).size))
                  go_roundw
                  case rel => exact ⟨k + 1, 0, M * (U * 10) + (W * 10 + 2), 0, 1, _, _, _, by omega, congrArg (Value.int .i64) (by omega), rfl, rfl, rfl, rfl, (by rw [HU.out]; exact HS.out.flush (by decide) HX.out (fun a b => H0.out (by first | exact a | trivial) (by first | exact b | trivial))), hr3.mono (Nat.le_trans hbel.size hs2), hbel.trans (HB3.out.mono hbel.size)⟩
                  case measure => (simp [intOf]) <;> omega
              · have hx' : (d[k].toNat : Int) = 51 := by omega
                clear ht hbk hdg
                by_cases hu : U < 1000000000000000000
                · have hu' : (((U : Int) * 10) == 10000000000000000000) = false := by simp; omega
                  by_cases hk1 : k + 1 < d.size
                  · have hk1' : (((k : Nat) : Int) == (d.size : Int) - 1) = false := (by simp <;> omega)
                    go_wp2
                    go_roundw
                    case rel => exact ⟨k + 1, j + 1, M, W * 10 + 3, U * 10, _, _, _, by omega, congrArg (Value.int .i64) (by omega), rfl, congrArg (Value.int .u64) (by omega), congrArg (Value.int .u64) (by omega), (by show _ = _; rw [HU.out, Nat.pow_succ]), HS.out.more (by decide) HX.out (fun a b => H0.out (by first | exact a | trivial) (by first | exact b | trivial)) (by have := HU17.out hu; omega) (by omega), HO, hbel⟩
                    case measure => (simp [intOf]) <;> omega
                  · have hk1' : (((k : Nat) : Int) == (d.size : Int) - 1) = true := by simp; omega
                    have hO := one_row' wr (U * 10) ((U : Int) * 10) (by omega) (by omega) (by omega)
                    have HO1 : Hid (Own wr.heap.size (wr.alloc (.cells #[.int .u64 ((U : Int) * 10)] 59)) .u64 59 (some ⟨wr.heap.size, 0, none⟩) 1 1 (mag (U * 10)) ∧ Below wr.heap.size wr (wr.alloc (.cells #[.int .u64 ((U : Int) * 10)] 59))) := hO
                    clear hO
                    go_wp2_with (first
                      | (go_at_call 149; refine (times_any ao (some ⟨wr.heap.size, 0, none⟩) l c 1 1 M (U * 10) _ (HO.out.row.later HO1.out.2) HO1.out.1.row (by omega) (by omega)).mono ?_; rintro e y1 ⟨o1, l1, c1, rfl, hr1, hb1⟩; have hl1 : l1 ≤ 2000 := (by rw [hr1.row.hlen]; have q1 := mag_len_mul M (U * 10); have q2 := HO1.out.1.row.hlen; have q3 := HO.out.row.hlen; omega))
                      | (go_at_call 112; refine (ofLimb_at (W * 10 + 3) _ _ (by omega) (by omega)).mono ?_; rintro e y2 ⟨o2, l2, c2, rfl, hr2, hb2⟩; have hl2 : l2 ≤ 1 := (by rw [hr2.row.hlen]; exact mag_len_one (by omega)))
                      | (go_at_call 129; refine (plus_any o1 o2 l1 c1 l2 c2 (M * (U * 10)) (W * 10 + 3) _ (hr1.row.later hb2) hr2.row (by omega) (by omega)).mono ?_; rintro e y3 ⟨o3, l3, c3, rfl, hr3, hb3⟩; have HB3 : Hid (Below wr.heap.size wr y3) := bnext (bnext (bnext HO1.out.2 hb1) hb2) hb3; have hs2 : wr.heap.size ≤ y2.heap.size := (bnext (bnext HO1.out.2 hb1) hb2).size))
                    go_roundw
                    case rel => exact ⟨k + 1, 0, M * (U * 10) + (W * 10 + 3), 0, 1, _, _, _, by omega, congrArg (Value.int .i64) (by omega), rfl, rfl, rfl, rfl, (by rw [HU.out]; exact HS.out.flush (by decide) HX.out (fun a b => H0.out (by first | exact a | trivial) (by first | exact b | trivial))), hr3.mono (Nat.le_trans hbel.size hs2), hbel.trans (HB3.out.mono hbel.size)⟩
                    case measure => (simp [intOf]) <;> omega
                · have hu' : (((U : Int) * 10) == 10000000000000000000) = true := by simp; omega
                  have hO := one_row' wr (U * 10) ((U : Int) * 10) (by omega) (by omega) (by omega)
                  have HO1 : Hid (Own wr.heap.size (wr.alloc (.cells #[.int .u64 ((U : Int) * 10)] 59)) .u64 59 (some ⟨wr.heap.size, 0, none⟩) 1 1 (mag (U * 10)) ∧ Below wr.heap.size wr (wr.alloc (.cells #[.int .u64 ((U : Int) * 10)] 59))) := hO
                  clear hO
                  go_wp2_with (first
                    | (go_at_call 149; refine (times_any ao (some ⟨wr.heap.size, 0, none⟩) l c 1 1 M (U * 10) _ (HO.out.row.later HO1.out.2) HO1.out.1.row (by omega) (by omega)).mono ?_; rintro e y1 ⟨o1, l1, c1, rfl, hr1, hb1⟩; have hl1 : l1 ≤ 2000 := (by rw [hr1.row.hlen]; have q1 := mag_len_mul M (U * 10); have q2 := HO1.out.1.row.hlen; have q3 := HO.out.row.hlen; omega))
                    | (go_at_call 112; refine (ofLimb_at (W * 10 + 3) _ _ (by omega) (by omega)).mono ?_; rintro e y2 ⟨o2, l2, c2, rfl, hr2, hb2⟩; have hl2 : l2 ≤ 1 := (by rw [hr2.row.hlen]; exact mag_len_one (by omega)))
                    | (go_at_call 129; refine (plus_any o1 o2 l1 c1 l2 c2 (M * (U * 10)) (W * 10 + 3) _ (hr1.row.later hb2) hr2.row (by omega) (by omega)).mono ?_; rintro e y3 ⟨o3, l3, c3, rfl, hr3, hb3⟩; have HB3 : Hid (Below wr.heap.size wr y3) := bnext (bnext (bnext HO1.out.2 hb1) hb2) hb3; have hs2 : wr.heap.size ≤ y2.heap.size := (bnext (bnext HO1.out.2 hb1) hb2).size))
                  go_roundw
                  case rel => exact ⟨k + 1, 0, M * (U * 10) + (W * 10 + 3), 0, 1, _, _, _, by omega, congrArg (Value.int .i64) (by omega), rfl, rfl, rfl, rfl, (by rw [HU.out]; exact HS.out.flush (by decide) HX.out (fun a b => H0.out (by first | exact a | trivial) (by first | exact b | trivial))), hr3.mono (Nat.le_trans hbel.size hs2), hbel.trans (HB3.out.mono hbel.size)⟩
                  case measure => (simp [intOf]) <;> omega
              · have hx' : (d[k].toNat : Int) = 52 := by omega
                clear ht hbk hdg
                by_cases hu : U < 1000000000000000000
                · have hu' : (((U : Int) * 10) == 10000000000000000000) = false := by simp; omega
                  by_cases hk1 : k + 1 < d.size
                  · have hk1' : (((k : Nat) : Int) == (d.size : Int) - 1) = false := (by simp <;> omega)
                    go_wp2
                    go_roundw
                    case rel => exact ⟨k + 1, j + 1, M, W * 10 + 4, U * 10, _, _, _, by omega, congrArg (Value.int .i64) (by omega), rfl, congrArg (Value.int .u64) (by omega), congrArg (Value.int .u64) (by omega), (by show _ = _; rw [HU.out, Nat.pow_succ]), HS.out.more (by decide) HX.out (fun a b => H0.out (by first | exact a | trivial) (by first | exact b | trivial)) (by have := HU17.out hu; omega) (by omega), HO, hbel⟩
                    case measure => (simp [intOf]) <;> omega
                  · have hk1' : (((k : Nat) : Int) == (d.size : Int) - 1) = true := by simp; omega
                    have hO := one_row' wr (U * 10) ((U : Int) * 10) (by omega) (by omega) (by omega)
                    have HO1 : Hid (Own wr.heap.size (wr.alloc (.cells #[.int .u64 ((U : Int) * 10)] 59)) .u64 59 (some ⟨wr.heap.size, 0, none⟩) 1 1 (mag (U * 10)) ∧ Below wr.heap.size wr (wr.alloc (.cells #[.int .u64 ((U : Int) * 10)] 59))) := hO
                    clear hO
                    go_wp2_with (first
                      | (go_at_call 149; refine (times_any ao (some ⟨wr.heap.size, 0, none⟩) l c 1 1 M (U * 10) _ (HO.out.row.later HO1.out.2) HO1.out.1.row (by omega) (by omega)).mono ?_; rintro e y1 ⟨o1, l1, c1, rfl, hr1, hb1⟩; have hl1 : l1 ≤ 2000 := (by rw [hr1.row.hlen]; have q1 := mag_len_mul M (U * 10); have q2 := HO1.out.1.row.hlen; have q3 := HO.out.row.hlen; omega))
                      | (go_at_call 112; refine (ofLimb_at (W * 10 + 4) _ _ (by omega) (by omega)).mono ?_; rintro e y2 ⟨o2, l2, c2, rfl, hr2, hb2⟩; have hl2 : l2 ≤ 1 := (by rw [hr2.row.hlen]; exact mag_len_one (by omega)))
                      | (go_at_call 129; refine (plus_any o1 o2 l1 c1 l2 c2 (M * (U * 10)) (W * 10 + 4) _ (hr1.row.later hb2) hr2.row (by omega) (by omega)).mono ?_; rintro e y3 ⟨o3, l3, c3, rfl, hr3, hb3⟩; have HB3 : Hid (Below wr.heap.size wr y3) := bnext (bnext (bnext HO1.out.2 hb1) hb2) hb3; have hs2 : wr.heap.size ≤ y2.heap.size := (bnext (bnext HO1.out.2 hb1) hb2).size))
                    go_roundw
                    case rel => exact ⟨k + 1, 0, M * (U * 10) + (W * 10 + 4), 0, 1, _, _, _, by omega, congrArg (Value.int .i64) (by omega), rfl, rfl, rfl, rfl, (by rw [HU.out]; exact HS.out.flush (by decide) HX.out (fun a b => H0.out (by first | exact a | trivial) (by first | exact b | trivial))), hr3.mono (Nat.le_trans hbel.size hs2), hbel.trans (HB3.out.mono hbel.size)⟩
                    case measure => (simp [intOf]) <;> omega
                · have hu' : (((U : Int) * 10) == 10000000000000000000) = true := by simp; omega
                  have hO := one_row' wr (U * 10) ((U : Int) * 10) (by omega) (by omega) (by omega)
                  have HO1 : Hid (Own wr.heap.size (wr.alloc (.cells #[.int .u64 ((U : Int) * 10)] 59)) .u64 59 (some ⟨wr.heap.size, 0, none⟩) 1 1 (mag (U * 10)) ∧ Below wr.heap.size wr (wr.alloc (.cells #[.int .u64 ((U : Int) * 10)] 59))) := hO
                  clear hO
                  go_wp2_with (first
                    | (go_at_call 149; refine (times_any ao (some ⟨wr.heap.size, 0, none⟩) l c 1 1 M (U * 10) _ (HO.out.row.later HO1.out.2) HO1.out.1.row (by omega) (by omega)).mono ?_; rintro e y1 ⟨o1, l1, c1, rfl, hr1, hb1⟩; have hl1 : l1 ≤ 2000 := (by rw [hr1.row.hlen]; have q1 := mag_len_mul M (U * 10); have q2 := HO1.out.1.row.hlen; have q3 := HO.out.row.hlen; omega))
                    | (go_at_call 112; refine (ofLimb_at (W * 10 + 4) _ _ (by omega) (by omega)).mono ?_; rintro e y2 ⟨o2, l2, c2, rfl, hr2, hb2⟩; have hl2 : l2 ≤ 1 := (by rw [hr2.row.hlen]; exact mag_len_one (by omega)))
                    | (go_at_call 129; refine (plus_any o1 o2 l1 c1 l2 c2 (M * (U * 10)) (W * 10 + 4) _ (hr1.row.later hb2) hr2.row (by omega) (by omega)).mono ?_; rintro e y3 ⟨o3, l3, c3, rfl, hr3, hb3⟩; have HB3 : Hid (Below wr.heap.size wr y3) := bnext (bnext (bnext HO1.out.2 hb1) hb2) hb3; have hs2 : wr.heap.size ≤ y2.heap.size := (bnext (bnext HO1.out.2 hb1) hb2).size))
                  go_roundw
                  case rel => exact ⟨k + 1, 0, M * (U * 10) + (W * 10 + 4), 0, 1, _, _, _, by omega, congrArg (Value.int .i64) (by omega), rfl, rfl, rfl, rfl, (by rw [HU.out]; exact HS.out.flush (by decide) HX.out (fun a b => H0.out (by first | exact a | trivial) (by first | exact b | trivial))), hr3.mono (Nat.le_trans hbel.size hs2), hbel.trans (HB3.out.mono hbel.size)⟩
                  case measure => (simp [intOf]) <;> omega
              · have hx' : (d[k].toNat : Int) = 53 := by omega
                clear ht hbk hdg
                by_cases hu : U < 1000000000000000000
                · have hu' : (((U : Int) * 10) == 10000000000000000000) = false := by simp; omega
                  by_cases hk1 : k + 1 < d.size
                  · have hk1' : (((k : Nat) : Int) == (d.size : Int) - 1) = false := (by simp <;> omega)
                    go_wp2
                    go_roundw
                    case rel => exact ⟨k + 1, j + 1, M, W * 10 + 5, U * 10, _, _, _, by omega, congrArg (Value.int .i64) (by omega), rfl, congrArg (Value.int .u64) (by omega), congrArg (Value.int .u64) (by omega), (by show _ = _; rw [HU.out, Nat.pow_succ]), HS.out.more (by decide) HX.out (fun a b => H0.out (by first | exact a | trivial) (by first | exact b | trivial)) (by have := HU17.out hu; omega) (by omega), HO, hbel⟩
                    case measure => (simp [intOf]) <;> omega
                  · have hk1' : (((k : Nat) : Int) == (d.size : Int) - 1) = true := by simp; omega
                    have hO := one_row' wr (U * 10) ((U : Int) * 10) (by omega) (by omega) (by omega)
                    have HO1 : Hid (Own wr.heap.size (wr.alloc (.cells #[.int .u64 ((U : Int) * 10)] 59)) .u64 59 (some ⟨wr.heap.size, 0, none⟩) 1 1 (mag (U * 10)) ∧ Below wr.heap.size wr (wr.alloc (.cells #[.int .u64 ((U : Int) * 10)] 59))) := hO
                    clear hO
                    go_wp2_with (first
                      | (go_at_call 149; refine (times_any ao (some ⟨wr.heap.size, 0, none⟩) l c 1 1 M (U * 10) _ (HO.out.row.later HO1.out.2) HO1.out.1.row (by omega) (by omega)).mono ?_; rintro e y1 ⟨o1, l1, c1, rfl, hr1, hb1⟩; have hl1 : l1 ≤ 2000 := (by rw [hr1.row.hlen]; have q1 := mag_len_mul M (U * 10); have q2 := HO1.out.1.row.hlen; have q3 := HO.out.row.hlen; omega))
                      | (go_at_call 112; refine (ofLimb_at (W * 10 + 5) _ _ (by omega) (by omega)).mono ?_; rintro e y2 ⟨o2, l2, c2, rfl, hr2, hb2⟩; have hl2 : l2 ≤ 1 := (by rw [hr2.row.hlen]; exact mag_len_one (by omega)))
                      | (go_at_call 129; refine (plus_any o1 o2 l1 c1 l2 c2 (M * (U * 10)) (W * 10 + 5) _ (hr1.row.later hb2) hr2.row (by omega) (by omega)).mono ?_; rintro e y3 ⟨o3, l3, c3, rfl, hr3, hb3⟩; have HB3 : Hid (Below wr.heap.size wr y3) := bnext (bnext (bnext HO1.out.2 hb1) hb2) hb3; have hs2 : wr.heap.size ≤ y2.heap.size := (bnext (bnext HO1.out.2 hb1) hb2).size))
                    go_roundw
                    case rel => exact ⟨k + 1, 0, M * (U * 10) + (W * 10 + 5), 0, 1, _, _, _, by omega, congrArg (Value.int .i64) (by omega), rfl, rfl, rfl, rfl, (by rw [HU.out]; exact HS.out.flush (by decide) HX.out (fun a b => H0.out (by first | exact a | trivial) (by first | exact b | trivial))), hr3.mono (Nat.le_trans hbel.size hs2), hbel.trans (HB3.out.mono hbel.size)⟩
                    case measure => (simp [intOf]) <;> omega
                · have hu' : (((U : Int) * 10) == 10000000000000000000) = true := by simp; omega
                  have hO := one_row' wr (U * 10) ((U : Int) * 10) (by omega) (by omega) (by omega)
                  have HO1 : Hid (Own wr.heap.size (wr.alloc (.cells #[.int .u64 ((U : Int) * 10)] 59)) .u64 59 (some ⟨wr.heap.size, 0, none⟩) 1 1 (mag (U * 10)) ∧ Below wr.heap.size wr (wr.alloc (.cells #[.int .u64 ((U : Int) * 10)] 59))) := hO
                  clear hO
                  go_wp2_with (first
                    | (go_at_call 149; refine (times_any ao (some ⟨wr.heap.size, 0, none⟩) l c 1 1 M (U * 10) _ (HO.out.row.later HO1.out.2) HO1.out.1.row (by omega) (by omega)).mono ?_; rintro e y1 ⟨o1, l1, c1, rfl, hr1, hb1⟩; have hl1 : l1 ≤ 2000 := (by rw [hr1.row.hlen]; have q1 := mag_len_mul M (U * 10); have q2 := HO1.out.1.row.hlen; have q3 := HO.out.row.hlen; omega))
                    | (go_at_call 112; refine (ofLimb_at (W * 10 + 5) _ _ (by omega) (by omega)).mono ?_; rintro e y2 ⟨o2, l2, c2, rfl, hr2, hb2⟩; have hl2 : l2 ≤ 1 := (by rw [hr2.row.hlen]; exact mag_len_one (by omega)))
                    | (go_at_call 129; refine (plus_any o1 o2 l1 c1 l2 c2 (M * (U * 10)) (W * 10 + 5) _ (hr1.row.later hb2) hr2.row (by omega) (by omega)).mono ?_; rintro e y3 ⟨o3, l3, c3, rfl, hr3, hb3⟩; have HB3 : Hid (Below wr.heap.size wr y3) := bnext (bnext (bnext HO1.out.2 hb1) hb2) hb3; have hs2 : wr.heap.size ≤ y2.heap.size := (bnext (bnext HO1.out.2 hb1) hb2).size))
                  go_roundw
                  case rel => exact ⟨k + 1, 0, M * (U * 10) + (W * 10 + 5), 0, 1, _, _, _, by omega, congrArg (Value.int .i64) (by omega), rfl, rfl, rfl, rfl, (by rw [HU.out]; exact HS.out.flush (by decide) HX.out (fun a b => H0.out (by first | exact a | trivial) (by first | exact b | trivial))), hr3.mono (Nat.le_trans hbel.size hs2), hbel.trans (HB3.out.mono hbel.size)⟩
                  case measure => (simp [intOf]) <;> omega
              · have hx' : (d[k].toNat : Int) = 54 := by omega
                clear ht hbk hdg
                by_cases hu : U < 1000000000000000000
                · have hu' : (((U : Int) * 10) == 10000000000000000000) = false := by simp; omega
                  by_cases hk1 : k + 1 < d.size
                  · have hk1' : (((k : Nat) : Int) == (d.size : Int) - 1) = false := (by simp <;> omega)
                    go_wp2
                    go_roundw
                    case rel => exact ⟨k + 1, j + 1, M, W * 10 + 6, U * 10, _, _, _, by omega, congrArg (Value.int .i64) (by omega), rfl, congrArg (Value.int .u64) (by omega), congrArg (Value.int .u64) (by omega), (by show _ = _; rw [HU.out, Nat.pow_succ]), HS.out.more (by decide) HX.out (fun a b => H0.out (by first | exact a | trivial) (by first | exact b | trivial)) (by have := HU17.out hu; omega) (by omega), HO, hbel⟩
                    case measure => (simp [intOf]) <;> omega
                  · have hk1' : (((k : Nat) : Int) == (d.size : Int) - 1) = true := by simp; omega
                    have hO := one_row' wr (U * 10) ((U : Int) * 10) (by omega) (by omega) (by omega)
                    have HO1 : Hid (Own wr.heap.size (wr.alloc (.cells #[.int .u64 ((U : Int) * 10)] 59)) .u64 59 (some ⟨wr.heap.size, 0, none⟩) 1 1 (mag (U * 10)) ∧ Below wr.heap.size wr (wr.alloc (.cells #[.int .u64 ((U : Int) * 10)] 59))) := hO
                    clear hO
                    go_wp2_with (first
                      | (go_at_call 149; refine (times_any ao (some ⟨wr.heap.size, 0, none⟩) l c 1 1 M (U * 10) _ (HO.out.row.later HO1.out.2) HO1.out.1.row (by omega) (by omega)).mono ?_; rintro e y1 ⟨o1, l1, c1, rfl, hr1, hb1⟩; have hl1 : l1 ≤ 2000 := (by rw [hr1.row.hlen]; have q1 := mag_len_mul M (U * 10); have q2 := HO1.out.1.row.hlen; have q3 := HO.out.row.hlen; omega))
                      | (go_at_call 112; refine (ofLimb_at (W * 10 + 6) _ _ (by omega) (by omega)).mono ?_; rintro e y2 ⟨o2, l2, c2, rfl, hr2, hb2⟩; have hl2 : l2 ≤ 1 := (by rw [hr2.row.hlen]; exact mag_len_one (by omega)))
                      | (go_at_call 129; refine (plus_any o1 o2 l1 c1 l2 c2 (M * (U * 10)) (W * 10 + 6) _ (hr1.row.later hb2) hr2.row (by omega) (by omega)).mono ?_; rintro e y3 ⟨o3, l3, c3, rfl, hr3, hb3⟩; have HB3 : Hid (Below wr.heap.size wr y3) := bnext (bnext (bnext HO1.out.2 hb1) hb2) hb3; have hs2 : wr.heap.size ≤ y2.heap.size := (bnext (bnext HO1.out.2 hb1) hb2).size))
                    go_roundw
                    case rel => exact ⟨k + 1, 0, M * (U * 10) + (W * 10 + 6), 0, 1, _, _, _, by omega, congrArg (Value.int .i64) (by omega), rfl, rfl, rfl, rfl, (by rw [HU.out]; exact HS.out.flush (by decide) HX.out (fun a b => H0.out (by first | exact a | trivial) (by first | exact b | trivial))), hr3.mono (Nat.le_trans hbel.size hs2), hbel.trans (HB3.out.mono hbel.size)⟩
                    case measure => (simp [intOf]) <;> omega
                · have hu' : (((U : Int) * 10) == 10000000000000000000) = true := by simp; omega
                  have hO := one_row' wr (U * 10) ((U : Int) * 10) (by omega) (by omega) (by omega)
                  have HO1 : Hid (Own wr.heap.size (wr.alloc (.cells #[.int .u64 ((U : Int) * 10)] 59)) .u64 59 (some ⟨wr.heap.size, 0, none⟩) 1 1 (mag (U * 10)) ∧ Below wr.heap.size wr (wr.alloc (.cells #[.int .u64 ((U : Int) * 10)] 59))) := hO
                  clear hO
                  go_wp2_with (first
                    | (go_at_call 149; refine (times_any ao (some ⟨wr.heap.size, 0, none⟩) l c 1 1 M (U * 10) _ (HO.out.row.later HO1.out.2) HO1.out.1.row (by omega) (by omega)).mono ?_; rintro e y1 ⟨o1, l1, c1, rfl, hr1, hb1⟩; have hl1 : l1 ≤ 2000 := (by rw [hr1.row.hlen]; have q1 := mag_len_mul M (U * 10); have q2 := HO1.out.1.row.hlen; have q3 := HO.out.row.hlen; omega))
                    | (go_at_call 112; refine (ofLimb_at (W * 10 + 6) _ _ (by omega) (by omega)).mono ?_; rintro e y2 ⟨o2, l2, c2, rfl, hr2, hb2⟩; have hl2 : l2 ≤ 1 := (by rw [hr2.row.hlen]; exact mag_len_one (by omega)))
                    | (go_at_call 129; refine (plus_any o1 o2 l1 c1 l2 c2 (M * (U * 10)) (W * 10 + 6) _ (hr1.row.later hb2) hr2.row (by omega) (by omega)).mono ?_; rintro e y3 ⟨o3, l3, c3, rfl, hr3, hb3⟩; have HB3 : Hid (Below wr.heap.size wr y3) := bnext (bnext (bnext HO1.out.2 hb1) hb2) hb3; have hs2 : wr.heap.size ≤ y2.heap.size := (bnext (bnext HO1.out.2 hb1) hb2).size))
                  go_roundw
                  case rel => exact ⟨k + 1, 0, M * (U * 10) + (W * 10 + 6), 0, 1, _, _, _, by omega, congrArg (Value.int .i64) (by omega), rfl, rfl, rfl, rfl, (by rw [HU.out]; exact HS.out.flush (by decide) HX.out (fun a b => H0.out (by first | exact a | trivial) (by first | exact b | trivial))), hr3.mono (Nat.le_trans hbel.size hs2), hbel.trans (HB3.out.mono hbel.size)⟩
                  case measure => (simp [intOf]) <;> omega
              · have hx' : (d[k].toNat : Int) = 55 := by omega
                clear ht hbk hdg
                by_cases hu : U < 1000000000000000000
                · have hu' : (((U : Int) * 10) == 10000000000000000000) = false := by simp; omega
                  by_cases hk1 : k + 1 < d.size
                  · have hk1' : (((k : Nat) : Int) == (d.size : Int) - 1) = false := (by simp <;> omega)
                    go_wp2
                    go_roundw
                    case rel => exact ⟨k + 1, j + 1, M, W * 10 + 7, U * 10, _, _, _, by omega, congrArg (Value.int .i64) (by omega), rfl, congrArg (Value.int .u64) (by omega), congrArg (Value.int .u64) (by omega), (by show _ = _; rw [HU.out, Nat.pow_succ]), HS.out.more (by decide) HX.out (fun a b => H0.out (by first | exact a | trivial) (by first | exact b | trivial)) (by have := HU17.out hu; omega) (by omega), HO, hbel⟩
                    case measure => (simp [intOf]) <;> omega
                  · have hk1' : (((k : Nat) : Int) == (d.size : Int) - 1) = true := by simp; omega
                    have hO := one_row' wr (U * 10) ((U : Int) * 10) (by omega) (by omega) (by omega)
                    have HO1 : Hid (Own wr.heap.size (wr.alloc (.cells #[.int .u64 ((U : Int) * 10)] 59)) .u64 59 (some ⟨wr.heap.size, 0, none⟩) 1 1 (mag (U * 10)) ∧ Below wr.heap.size wr (wr.alloc (.cells #[.int .u64 ((U : Int) * 10)] 59))) := hO
                    clear hO
                    go_wp2_with (first
                      | (go_at_call 149; refine (times_any ao (some ⟨wr.heap.size, 0, none⟩) l c 1 1 M (U * 10) _ (HO.out.row.later HO1.out.2) HO1.out.1.row (by omega) (by omega)).mono ?_; rintro e y1 ⟨o1, l1, c1, rfl, hr1, hb1⟩; have hl1 : l1 ≤ 2000 := (by rw [hr1.row.hlen]; have q1 := mag_len_mul M (U * 10); have q2 := HO1.out.1.row.hlen; have q3 := HO.out.row.hlen; omega))
                      | (go_at_call 112; refine (ofLimb_at (W * 10 + 7) _ _ (by omega) (by omega)).mono ?_; rintro e y2 ⟨o2, l2, c2, rfl, hr2, hb2⟩; have hl2 : l2 ≤ 1 := (by rw [hr2.row.hlen]; exact mag_len_one (by omega)))
                      | (go_at_call 129; refine (plus_any o1 o2 l1 c1 l2 c2 (M * (U * 10)) (W * 10 + 7) _ (hr1.row.later hb2) hr2.row (by omega) (by omega)).mono ?_; rintro e y3 ⟨o3, l3, c3, rfl, hr3, hb3⟩; have HB3 : Hid (Below wr.heap.size wr y3) := bnext (bnext (bnext HO1.out.2 hb1) hb2) hb3; have hs2 : wr.heap.size ≤ y2.heap.size := (bnext (bnext HO1.out.2 hb1) hb2).size))
                    go_roundw
                    case rel => exact ⟨k + 1, 0, M * (U * 10) + (W * 10 + 7), 0, 1, _, _, _, by omega, congrArg (Value.int .i64) (by omega), rfl, rfl, rfl, rfl, (by rw [HU.out]; exact HS.out.flush (by decide) HX.out (fun a b => H0.out (by first | exact a | trivial) (by first | exact b | trivial))), hr3.mono (Nat.le_trans hbel.size hs2), hbel.trans (HB3.out.mono hbel.size)⟩
                    case measure => (simp [intOf]) <;> omega
                · have hu' : (((U : Int) * 10) == 10000000000000000000) = true := by simp; omega
                  have hO := one_row' wr (U * 10) ((U : Int) * 10) (by omega) (by omega) (by omega)
                  have HO1 : Hid (Own wr.heap.size (wr.alloc (.cells #[.int .u64 ((U : Int) * 10)] 59)) .u64 59 (some ⟨wr.heap.size, 0, none⟩) 1 1 (mag (U * 10)) ∧ Below wr.heap.size wr (wr.alloc (.cells #[.int .u64 ((U : Int) * 10)] 59))) := hO
                  clear hO
                  go_wp2_with (first
                    | (go_at_call 149; refine (times_any ao (some ⟨wr.heap.size, 0, none⟩) l c 1 1 M (U * 10) _ (HO.out.row.later HO1.out.2) HO1.out.1.row (by omega) (by omega)).mono ?_; rintro e y1 ⟨o1, l1, c1, rfl, hr1, hb1⟩; have hl1 : l1 ≤ 2000 := (by rw [hr1.row.hlen]; have q1 := mag_len_mul M (U * 10); have q2 := HO1.out.1.row.hlen; have q3 := HO.out.row.hlen; omega))
                    | (go_at_call 112; refine (ofLimb_at (W * 10 + 7) _ _ (by omega) (by omega)).mono ?_; rintro e y2 ⟨o2, l2, c2, rfl, hr2, hb2⟩; have hl2 : l2 ≤ 1 := (by rw [hr2.row.hlen]; exact mag_len_one (by omega)))
                    | (go_at_call 129; refine (plus_any o1 o2 l1 c1 l2 c2 (M * (U * 10)) (W * 10 + 7) _ (hr1.row.later hb2) hr2.row (by omega) (by omega)).mono ?_; rintro e y3 ⟨o3, l3, c3, rfl, hr3, hb3⟩; have HB3 : Hid (Below wr.heap.size wr y3) := bnext (bnext (bnext HO1.out.2 hb1) hb2) hb3; have hs2 : wr.heap.size ≤ y2.heap.size := (bnext (bnext HO1.out.2 hb1) hb2).size))
                  go_roundw
                  case rel => exact ⟨k + 1, 0, M * (U * 10) + (W * 10 + 7), 0, 1, _, _, _, by omega, congrArg (Value.int .i64) (by omega), rfl, rfl, rfl, rfl, (by rw [HU.out]; exact HS.out.flush (by decide) HX.out (fun a b => H0.out (by first | exact a | trivial) (by first | exact b | trivial))), hr3.mono (Nat.le_trans hbel.size hs2), hbel.trans (HB3.out.mono hbel.size)⟩
                  case measure => (simp [intOf]) <;> omega
              · have hx' : (d[k].toNat : Int) = 56 := by omega
                clear ht hbk hdg
                by_cases hu : U < 1000000000000000000
                · have hu' : (((U : Int) * 10) == 10000000000000000000) = false := by simp; omega
                  by_cases hk1 : k + 1 < d.size
                  · have hk1' : (((k : Nat) : Int) == (d.size : Int) - 1) = false := (by simp <;> omega)
                    go_wp2
                    go_roundw
                    case rel => exact ⟨k + 1, j + 1, M, W * 10 + 8, U * 10, _, _, _, by omega, congrArg (Value.int .i64) (by omega), rfl, congrArg (Value.int .u64) (by omega), congrArg (Value.int .u64) (by omega), (by show _ = _; rw [HU.out, Nat.pow_succ]), HS.out.more (by decide) HX.out (fun a b => H0.out (by first | exact a | trivial) (by first | exact b | trivial)) (by have := HU17.out hu; omega) (by omega), HO, hbel⟩
                    case measure => (simp [intOf]) <;> omega
                  · have hk1' : (((k : Nat) : Int) == (d.size : Int) - 1) = true := by simp; omega
                    have hO := one_row' wr (U * 10) ((U : Int) * 10) (by omega) (by omega) (by omega)
                    have HO1 : Hid (Own wr.heap.size (wr.alloc (.cells #[.int .u64 ((U : Int) * 10)] 59)) .u64 59 (some ⟨wr.heap.size, 0, none⟩) 1 1 (mag (U * 10)) ∧ Below wr.heap.size wr (wr.alloc (.cells #[.int .u64 ((U : Int) * 10)] 59))) := hO
                    clear hO
                    go_wp2_with (first
                      | (go_at_call 149; refine (times_any ao (some ⟨wr.heap.size, 0, none⟩) l c 1 1 M (U * 10) _ (HO.out.row.later HO1.out.2) HO1.out.1.row (by omega) (by omega)).mono ?_; rintro e y1 ⟨o1, l1, c1, rfl, hr1, hb1⟩; have hl1 : l1 ≤ 2000 := (by rw [hr1.row.hlen]; have q1 := mag_len_mul M (U * 10); have q2 := HO1.out.1.row.hlen; have q3 := HO.out.row.hlen; omega))
                      | (go_at_call 112; refine (ofLimb_at (W * 10 + 8) _ _ (by omega) (by omega)).mono ?_; rintro e y2 ⟨o2, l2, c2, rfl, hr2, hb2⟩; have hl2 : l2 ≤ 1 := (by rw [hr2.row.hlen]; exact mag_len_one (by omega)))
                      | (go_at_call 129; refine (plus_any o1 o2 l1 c1 l2 c2 (M * (U * 10)) (W * 10 + 8) _ (hr1.row.later hb2) hr2.row (by omega) (by omega)).mono ?_; rintro e y3 ⟨o3, l3, c3, rfl, hr3, hb3⟩; have HB3 : Hid (Below wr.heap.size wr y3) := bnext (bnext (bnext HO1.out.2 hb1) hb2) hb3; have hs2 : wr.heap.size ≤ y2.heap.size := (bnext (bnext HO1.out.2 hb1) hb2).size))
                    go_roundw
                    case rel => exact ⟨k + 1, 0, M * (U * 10) + (W * 10 + 8), 0, 1, _, _, _, by omega, congrArg (Value.int .i64) (by omega), rfl, rfl, rfl, rfl, (by rw [HU.out]; exact HS.out.flush (by decide) HX.out (fun a b => H0.out (by first | exact a | trivial) (by first | exact b | trivial))), hr3.mono (Nat.le_trans hbel.size hs2), hbel.trans (HB3.out.mono hbel.size)⟩
                    case measure => (simp [intOf]) <;> omega
                · have hu' : (((U : Int) * 10) == 10000000000000000000) = true := by simp; omega
                  have hO := one_row' wr (U * 10) ((U : Int) * 10) (by omega) (by omega) (by omega)
                  have HO1 : Hid (Own wr.heap.size (wr.alloc (.cells #[.int .u64 ((U : Int) * 10)] 59)) .u64 59 (some ⟨wr.heap.size, 0, none⟩) 1 1 (mag (U * 10)) ∧ Below wr.heap.size wr (wr.alloc (.cells #[.int .u64 ((U : Int) * 10)] 59))) := hO
                  clear hO
                  go_wp2_with (first
                    | (go_at_call 149; refine (times_any ao (some ⟨wr.heap.size, 0, none⟩) l c 1 1 M (U * 10) _ (HO.out.row.later HO1.out.2) HO1.out.1.row (by omega) (by omega)).mono ?_; rintro e y1 ⟨o1, l1, c1, rfl, hr1, hb1⟩; have hl1 : l1 ≤ 2000 := (by rw [hr1.row.hlen]; have q1 := mag_len_mul M (U * 10); have q2 := HO1.out.1.row.hlen; have q3 := HO.out.row.hlen; omega))
                    | (go_at_call 112; refine (ofLimb_at (W * 10 + 8) _ _ (by omega) (by omega)).mono ?_; rintro e y2 ⟨o2, l2, c2, rfl, hr2, hb2⟩; have hl2 : l2 ≤ 1 := (by rw [hr2.row.hlen]; exact mag_len_one (by omega)))
                    | (go_at_call 129; refine (plus_any o1 o2 l1 c1 l2 c2 (M * (U * 10)) (W * 10 + 8) _ (hr1.row.later hb2) hr2.row (by omega) (by omega)).mono ?_; rintro e y3 ⟨o3, l3, c3, rfl, hr3, hb3⟩; have HB3 : Hid (Below wr.heap.size wr y3) := bnext (bnext (bnext HO1.out.2 hb1) hb2) hb3; have hs2 : wr.heap.size ≤ y2.heap.size := (bnext (bnext HO1.out.2 hb1) hb2).size))
                  go_roundw
                  case rel => exact ⟨k + 1, 0, M * (U * 10) + (W * 10 + 8), 0, 1, _, _, _, by omega, congrArg (Value.int .i64) (by omega), rfl, rfl, rfl, rfl, (by rw [HU.out]; exact HS.out.flush (by decide) HX.out (fun a b => H0.out (by first | exact a | trivial) (by first | exact b | trivial))), hr3.mono (Nat.le_trans hbel.size hs2), hbel.trans (HB3.out.mono hbel.size)⟩
                  case measure => (simp [intOf]) <;> omega
              · have hx' : (d[k].toNat : Int) = 57 := by omega
                clear ht hbk hdg
                by_cases hu : U < 1000000000000000000
                · have hu' : (((U : Int) * 10) == 10000000000000000000) = false := by simp; omega
                  by_cases hk1 : k + 1 < d.size
                  · have hk1' : (((k : Nat) : Int) == (d.size : Int) - 1) = false := (by simp <;> omega)
                    go_wp2
                    go_roundw
                    case rel => exact ⟨k + 1, j + 1, M, W * 10 + 9, U * 10, _, _, _, by omega, congrArg (Value.int .i64) (by omega), rfl, congrArg (Value.int .u64) (by omega), congrArg (Value.int .u64) (by omega), (by show _ = _; rw [HU.out, Nat.pow_succ]), HS.out.more (by decide) HX.out (fun a b => H0.out (by first | exact a | trivial) (by first | exact b | trivial)) (by have := HU17.out hu; omega) (by omega), HO, hbel⟩
                    case measure => (simp [intOf]) <;> omega
                  · have hk1' : (((k : Nat) : Int) == (d.size : Int) - 1) = true := by simp; omega
                    have hO := one_row' wr (U * 10) ((U : Int) * 10) (by omega) (by omega) (by omega)
                    have HO1 : Hid (Own wr.heap.size (wr.alloc (.cells #[.int .u64 ((U : Int) * 10)] 59)) .u64 59 (some ⟨wr.heap.size, 0, none⟩) 1 1 (mag (U * 10)) ∧ Below wr.heap.size wr (wr.alloc (.cells #[.int .u64 ((U : Int) * 10)] 59))) := hO
                    clear hO
                    go_wp2_with (first
                      | (go_at_call 149; refine (times_any ao (some ⟨wr.heap.size, 0, none⟩) l c 1 1 M (U * 10) _ (HO.out.row.later HO1.out.2) HO1.out.1.row (by omega) (by omega)).mono ?_; rintro e y1 ⟨o1, l1, c1, rfl, hr1, hb1⟩; have hl1 : l1 ≤ 2000 := (by rw [hr1.row.hlen]; have q1 := mag_len_mul M (U * 10); have q2 := HO1.out.1.row.hlen; have q3 := HO.out.row.hlen; omega))
                      | (go_at_call 112; refine (ofLimb_at (W * 10 + 9) _ _ (by omega) (by omega)).mono ?_; rintro e y2 ⟨o2, l2, c2, rfl, hr2, hb2⟩; have hl2 : l2 ≤ 1 := (by rw [hr2.row.hlen]; exact mag_len_one (by omega)))
                      | (go_at_call 129; refine (plus_any o1 o2 l1 c1 l2 c2 (M * (U * 10)) (W * 10 + 9) _ (hr1.row.later hb2) hr2.row (by omega) (by omega)).mono ?_; rintro e y3 ⟨o3, l3, c3, rfl, hr3, hb3⟩; have HB3 : Hid (Below wr.heap.size wr y3) := bnext (bnext (bnext HO1.out.2 hb1) hb2) hb3; have hs2 : wr.heap.size ≤ y2.heap.size := (bnext (bnext HO1.out.2 hb1) hb2).size))
                    go_roundw
                    case rel => exact ⟨k + 1, 0, M * (U * 10) + (W * 10 + 9), 0, 1, _, _, _, by omega, congrArg (Value.int .i64) (by omega), rfl, rfl, rfl, rfl, (by rw [HU.out]; exact HS.out.flush (by decide) HX.out (fun a b => H0.out (by first | exact a | trivial) (by first | exact b | trivial))), hr3.mono (Nat.le_trans hbel.size hs2), hbel.trans (HB3.out.mono hbel.size)⟩
                    case measure => (simp [intOf]) <;> omega
                · have hu' : (((U : Int) * 10) == 10000000000000000000) = true := by simp; omega
                  have hO := one_row' wr (U * 10) ((U : Int) * 10) (by omega) (by omega) (by omega)
                  have HO1 : Hid (Own wr.heap.size (wr.alloc (.cells #[.int .u64 ((U : Int) * 10)] 59)) .u64 59 (some ⟨wr.heap.size, 0, none⟩) 1 1 (mag (U * 10)) ∧ Below wr.heap.size wr (wr.alloc (.cells #[.int .u64 ((U : Int) * 10)] 59))) := hO
                  clear hO
                  go_wp2_with (first
                    | (go_at_call 149; refine (times_any ao (some ⟨wr.heap.size, 0, none⟩) l c 1 1 M (U * 10) _ (HO.out.row.later HO1.out.2) HO1.out.1.row (by omega) (by omega)).mono ?_; rintro e y1 ⟨o1, l1, c1, rfl, hr1, hb1⟩; have hl1 : l1 ≤ 2000 := (by rw [hr1.row.hlen]; have q1 := mag_len_mul M (U * 10); have q2 := HO1.out.1.row.hlen; have q3 := HO.out.row.hlen; omega))
                    | (go_at_call 112; refine (ofLimb_at (W * 10 + 9) _ _ (by omega) (by omega)).mono ?_; rintro e y2 ⟨o2, l2, c2, rfl, hr2, hb2⟩; have hl2 : l2 ≤ 1 := (by rw [hr2.row.hlen]; exact mag_len_one (by omega)))
                    | (go_at_call 129; refine (plus_any o1 o2 l1 c1 l2 c2 (M * (U * 10)) (W * 10 + 9) _ (hr1.row.later hb2) hr2.row (by omega) (by omega)).mono ?_; rintro e y3 ⟨o3, l3, c3, rfl, hr3, hb3⟩; have HB3 : Hid (Below wr.heap.size wr y3) := bnext (bnext (bnext HO1.out.2 hb1) hb2) hb3; have hs2 : wr.heap.size ≤ y2.heap.size := (bnext (bnext HO1.out.2 hb1) hb2).size))
                  go_roundw
                  case rel => exact ⟨k + 1, 0, M * (U * 10) + (W * 10 + 9), 0, 1, _, _, _, by omega, congrArg (Value.int .i64) (by omega), rfl, rfl, rfl, rfl, (by rw [HU.out]; exact HS.out.flush (by decide) HX.out (fun a b => H0.out (by first | exact a | trivial) (by first | exact b | trivial))), hr3.mono (Nat.le_trans hbel.size hs2), hbel.trans (HB3.out.mono hbel.size)⟩
                  case measure => (simp [intOf]) <;> omega
          · have HN : Hid (¬ DigB d s.size) := fun h => hdg (h.1 k hlt)
            have g0 : ¬ (d[k].toNat : Int) = 48 := by omega
            have g1 : ¬ (d[k].toNat : Int) = 49 := by omega
            have g2 : ¬ (d[k].toNat : Int) = 50 := by omega
            have g3 : ¬ (d[k].toNat : Int) = 51 := by omega
            have g4 : ¬ (d[k].toNat : Int) = 52 := by omega
            have g5 : ¬ (d[k].toNat : Int) = 53 := by omega
            have g6 : ¬ (d[k].toNat : Int) = 54 := by omega
            have g7 : ¬ (d[k].toNat : Int) = 55 := by omega
            have g8 : ¬ (d[k].toNat : Int) = 56 := by omega
            have g9 : ¬ (d[k].toNat : Int) = 57 := by omega
            clear hbk hdg
            go_wp2
            go_ret2
            exact ⟨hbel, Or.inr ⟨rfl, HN.out⟩⟩
        · obtain rfl : k = d.size := by omega
          have HJ : Hid (j = 0 ∧ W = 0) := by
            have := HS.out.last rfl
            subst this
            exact ⟨rfl, by have := HS.out.wl; simpa using this⟩
          go_wp2
          go_ret2
          refine ⟨hbel, Or.inl ⟨_, _, _, rfl, ⟨HS.out.dig, by omega, c1, HS.out.top (by omega)⟩, ?_⟩⟩
          have h := HS.out.eq
          rw [HJ.out.1, HJ.out.2, Nat.pow_zero, Nat.mul_one, Nat.add_zero] at h
          rw [← h]; exact HO.out
    · have c1' : (1024 : Int) < (d.size : Int) := by omega
      have HN : Hid (¬ DigB d s.size) := fun h => c1 h.2.2.1
      go_enter Tryz.func152, Tryz.ntmps152
      go_wp2_with (go_at_call 172; refine hcon.mono ?_; rintro e w1 ⟨rfl, hw1⟩; replace hw1 := hw1.symm; subst hw1)
      go_ret2
      exact ⟨Below.refl _ _, Or.inr ⟨rfl, HN.out⟩⟩
end Go.Proofs.YtiiefpnkpfliiaaGreatDoor
/- Walks: big's Parse. -/
namespace Go.Proofs.YtiiefpnkpfliiaaGreatDoor
open Go.RowKit
set_option linter.unusedVariables false
set_option linter.unusedSimpArgs false
def renTP : Go.Shelf.Ren := ⟨fun x => if x = 101 then 172 else if x = 208 then 193 else 200, fun x => if x = 3 then 3 else if x = 4 then 4 else 9, fun x => x⟩
theorem lays101 : Lays.n101 Tryz.prog renTP := by
  constructor <;> first | (intro w; kernel_rfl) | kernel_rfl
theorem trimMinus_any (s : ByteArray) (w : World) : Calls Tryz.prog 172 #[.string s, .string ⟨#[45]⟩] w fun e w' => e = .returned (.string ⟨(Lib.trimPrefix s.data.toList [45]).toArray⟩) ∧ w' = w :=
  Any.strings_TrimPrefix lays101 s ⟨#[45]⟩ w
theorem byte_head {s : ByteArray} {x : UInt8} {r : List UInt8} (h : s.data.toList = x :: r) : 0 < s.size ∧ byteAt s 0 = x.toNat := by
  have hs : 0 < s.size := by
    show 0 < s.data.size
    rw [← Array.length_toList, h]; simp
  refine ⟨hs, ?_⟩
  rw [byteAt_of hs]
  have e : s[0] = x := by
    show s.data[0] = x
    rw [← Array.getElem_toList]
    simp [h]
  rw [e]
theorem trim_signed {s : ByteArray} (h : Signed s) : (⟨(Lib.trimPrefix s.data.toList [45]).toArray⟩ : ByteArray) = s.extract 1 s.size := by
  obtain ⟨h0, h1⟩ := h
  cases hl : s.data.toList with
  | nil =>
    exfalso
    have : s.data.size = 0 := by rw [← Array.length_toList, hl]; rfl
    have h2 : s.size = s.data.size := rfl
    omega
  | cons x r =>
    have hx := (byte_head hl).2
    rw [h1] at hx
    have hx' : x = 45 := UInt8.toNat_inj.1 (by rw [← hx]; rfl)
    subst hx'
    have e : Lib.trimPrefix (45 :: r) [45] = r := by simp [Lib.trimPrefix, Lib.hasPrefix, List.isPrefixOf]
    rw [e]
    apply ByteArray.ext
    show r.toArray = (s.extract 1 s.size).data
    rw [ByteArray.data_extract]
    apply Array.toList_inj.1
    have h2 : s.size = s.data.toList.length := by rw [Array.length_toList]; rfl
    rw [h2, hl]
    simp [hl]
theorem trim_plain {s : ByteArray} (h : ¬ Signed s) : (⟨(Lib.trimPrefix s.data.toList [45]).toArray⟩ : ByteArray) = s := by
  have e : Lib.trimPrefix s.data.toList [45] = s.data.toList := by
    unfold Lib.trimPrefix Lib.hasPrefix
    cases hl : s.data.toList with
    | nil => simp [List.isPrefixOf]
    | cons x r =>
      have hx := byte_head hl
      have : ¬ x = 45 := fun e => h ⟨hx.1, by rw [hx.2, e]; rfl⟩
      have h2 : ¬ (45 : UInt8) = x := fun e => this e.symm
      simp [List.isPrefixOf, h2]
  rw [e]
theorem dec_pos {d : ByteArray} {k : Nat} (h : ∀ j, j < k → 48 ≤ byteAt d j) (h0 : byteAt d 0 ≠ 48) (hk : 0 < k) : decVal d k ≠ 0 := by
  induction k with
  | zero => omega
  | succ k ih =>
    by_cases e : k = 0
    · subst e
      have := h 0 (by omega)
      simp [decVal]; omega
    · have h1 := ih (fun j hj => h j (by omega)) (by omega)
      rw [decVal]; omega
/-- behind a sign: big reads what the page reads -/
theorem digb_signed {d : ByteArray} {sz : Nat} (hz : sz = d.size + 1) : DigB d sz ↔ (Dig d ∧ decVal d d.size ≠ 0) := by
  constructor
  · rintro ⟨h1, h2, h3, h4⟩
    have h0 : byteAt d 0 ≠ 48 := fun e => by have := h4 e; omega
    exact ⟨⟨h1, h2, h3, fun e => absurd e h0⟩, dec_pos (fun j hj => (h1 j hj).1) h0 h2⟩
  · rintro ⟨⟨h1, h2, h3, h4⟩, h5⟩
    refine ⟨h1, h2, h3, fun e => ?_⟩
    exfalso
    have h6 := h4 e
    apply h5
    rw [h6]; simp [decVal, e]
theorem digb_plain {d : ByteArray} : DigB d d.size ↔ Dig d := by
  constructor
  · rintro ⟨h1, h2, h3, h4⟩
    exact ⟨h1, h2, h3, fun e => by have := h4 e; omega⟩
  · rintro ⟨h1, h2, h3, h4⟩
    exact ⟨h1, h2, h3, fun e => by have := h4 e; omega⟩
theorem read_yes (s d : ByteArray) (w : World) (hcon : Calls Tryz.prog 172 #[.string s, .string ⟨#[45]⟩] w fun e w' => e = .returned (.string d) ∧ w' = w) (hs : s.size ≤ 9223372036854775807) (hds : d.size ≤ s.size) (hd : DigB d s.size) :
    Calls Tryz.prog 152 #[.string s] w fun e w' => ∃ ao l c, e = .returned (.tuple #[.slice ao l c, .bool true]) ∧ Own w.heap.size w' .u64 59 ao l c (mag (decVal d d.size)) ∧ Below w.heap.size w w' :=
  (readDecimal_any s d w hcon hs hds).mono fun e w' h => by
    rcases h.2 with ⟨ao, l, c, h1, _, h3⟩ | h'
    · exact ⟨ao, l, c, h1, h3, h.1⟩
    · exact absurd hd h'.2
theorem read_no (s d : ByteArray) (w : World) (hcon : Calls Tryz.prog 172 #[.string s, .string ⟨#[45]⟩] w fun e w' => e = .returned (.string d) ∧ w' = w) (hs : s.size ≤ 9223372036854775807) (hds : d.size ≤ s.size) (hd : ¬ DigB d s.size) :
    Calls Tryz.prog 152 #[.string s] w fun e w' => e = .returned (.tuple #[.slice none 0 0, .bool false]) ∧ Below w.heap.size w w' :=
  (readDecimal_any s d w hcon hs hds).mono fun e w' h => by
    rcases h.2 with ⟨ao, l, c, h1, h2, h3⟩ | h'
    · exact absurd h2 hd
    · exact ⟨h'.1, h.1⟩
set_option maxRecDepth 100000 in
set_option maxHeartbeats 1000000 in
/-- what is no decimal is refused -/
theorem bparse_no (s d : ByteArray) (w : World) (hcon : ∀ W, Calls Tryz.prog 172 #[.string s, .string ⟨#[45]⟩] W fun e w' => e = .returned (.string d) ∧ w' = W) (hs : s.size ≤ 9223372036854775807) (hds : d.size ≤ s.size) (hd : ¬ DigB d s.size) :
    Calls Tryz.prog 138 #[.string s] w fun e w' => e = .returned (.tuple #[.agg #[.bool false, .slice none 0 0], .int .i64 13]) ∧ Below w.heap.size w w' := by
  obtain ⟨W, hW⟩ : ∃ W, W = w.alloc (.cells #[.bool false, .slice none 0 0] 26) := ⟨_, rfl⟩
  have HF : Hid (Fresh W w.heap.size ∧ W.heap.size = w.heap.size + 1 ∧ Below w.heap.size w W) := by
    rw [hW]; exact ⟨Fresh.new w, by simp, (Below.refl _ _).alloc (Nat.le_refl _) _⟩
  have hrd := read_no s d W (hcon W) hs hds hd
  clear hcon hd
  go_enter Tryz.func138, Tryz.ntmps138
  go_wp2_with (go_at_call 152; rw [← hW]; clear hW; refine hrd.mono ?_; rintro e w1 ⟨rfl, hb1⟩; obtain ⟨g5, g3, g4⟩ := HF.out.1.later hb1 (by rw [HF.out.2.1]; omega))
  exact bodyPost_ret (v := .tuple #[.agg #[.bool false, .slice none 0 0], .int .i64 13]) (by simp [results, Tryz.results138, go_sem, g3, g4]) rfl
    ⟨rfl, below_store (bnext HF.out.2.2 hb1) (Nat.le_refl _) _ _⟩
set_option maxRecDepth 100000 in
set_option maxHeartbeats 1000000 in
/-- a decimal is read -/
theorem bparse_yes (s d : ByteArray) (neg : Bool) (w : World) (hcon : ∀ W, Calls Tryz.prog 172 #[.string s, .string ⟨#[45]⟩] W fun e w' => e = .returned (.string d) ∧ w' = W) (hs : s.size ≤ 9223372036854775807) (hds : d.size ≤ s.size) (hd : DigB d s.size) (h0 : 0 < s.size) (hb : ((s[0].toNat : Int) == 45) = neg) (hlen : (mag (decVal d d.size)).length ≤ 4611686018427387904) :
    Calls Tryz.prog 138 #[.string s] w fun e w' => NewIntErr w w' e (sgn neg (decVal d d.size)) := by
  obtain ⟨W, hW⟩ : ∃ W, W = w.alloc (.cells #[.bool false, .slice none 0 0] 26) := ⟨_, rfl⟩
  have HF : Hid (Fresh W w.heap.size ∧ W.heap.size = w.heap.size + 1 ∧ Below w.heap.size w W) := by
    rw [hW]; exact ⟨Fresh.new w, by simp, (Below.refl _ _).alloc (Nat.le_refl _) _⟩
  have hrd := read_yes s d W (hcon W) hs hds hd
  have HL : Hid ((mag (decVal d d.size)).length ≤ 4611686018427387904) := hlen
  have h1 : (0 : Int) < (s.size : Int) := by omega
  clear hcon hd hlen
  go_enter Tryz.func138, Tryz.ntmps138
  go_wp2_with (first
    | (go_at_call 152; rw [← hW]; clear hW; refine hrd.mono ?_; rintro e w1 ⟨ao, l, c, rfl, ho, hb1⟩; have hl1 : l ≤ 4611686018427387904 := (by rw [ho.row.hlen]; exact HL.out))
    | (go_at_call 99; refine (signed_any neg ao l c _ hl1).mono ?_; rintro e w2 ⟨rfl, hb2⟩; obtain ⟨g5, g3, g4⟩ := HF.out.1.later (bnext hb1 hb2) (by rw [HF.out.2.1]; omega)))
  exact bodyPost_ret (v := .tuple #[.agg #[.bool (neg && decide (0 < l)), .slice ao l c], .int .i64 0]) (by simp [results, Tryz.results138, go_sem, g3, g4]) rfl
    (NewInt.ret ((ho.later hb2).store (by rw [HF.out.2.1]; omega) _ _) (by rw [HF.out.2.1]; omega) rfl (below_store (bnext HF.out.2.2 (bnext hb1 hb2)) (Nat.le_refl _) _ _)).err
theorem NewIntErr.rparse {w w' : World} {e : Ending} {neg : Bool} {d : ByteArray} (h : NewIntErr w w' e (sgn neg (decVal d d.size))) (h1 : Dig d) (h2 : neg = true → decVal d d.size ≠ 0) : RParse neg d w w' e := by
  obtain ⟨n, ao, l, c, rfl, hs, ho, hb⟩ := h
  exact ⟨hb, Or.inl ⟨n, ao, l, c, rfl, h1, h2, ho.int hs⟩⟩
theorem dig_len {d : ByteArray} (h : Dig d) : (mag (decVal d d.size)).length ≤ 4611686018427387904 := by
  have q1 := decVal_len h (Nat.le_refl _)
  have q2 := h.2.2.1
  omega
/-- big reads a text with a sign as the page does -/
theorem bparse_neg (s : ByteArray) (w : World) (hs : s.size ≤ 9223372036854775807) (hsg : Signed s) :
    Calls Tryz.prog 138 #[.string s] w fun e w' => RParse true (s.extract 1 s.size) w w' e := by
  have hsz : (s.extract 1 s.size).size = s.size - 1 := by rw [ByteArray.size_extract]; omega
  have h0 := hsg.1
  have hcon : ∀ W, Calls Tryz.prog 172 #[.string s, .string ⟨#[45]⟩] W fun e w' => e = .returned (.string (s.extract 1 s.size)) ∧ w' = W := fun W => by
    have := trimMinus_any s W
    rw [trim_signed hsg] at this
    exact this
  have hiff := digb_signed (d := s.extract 1 s.size) (sz := s.size) (by omega)
  by_cases hd : DigB (s.extract 1 s.size) s.size
  · have hd' := hiff.1 hd
    refine (bparse_yes s _ true w hcon hs (by omega) hd h0 ?_ (dig_len hd'.1)).mono fun e w' h => h.rparse hd'.1 fun _ => hd'.2
    have := hsg.2
    rw [byteAt_of h0] at this
    rw [this]; rfl
  · refine (bparse_no s _ w hcon hs (by omega) hd).mono fun e w' h => ⟨h.2, Or.inr ⟨h.1, fun h2 => hd (hiff.2 ⟨h2.1, h2.2 rfl⟩)⟩⟩
/-- and one without -/
theorem bparse_plain (s : ByteArray) (w : World) (hs : s.size ≤ 9223372036854775807) (hsg : ¬ Signed s) :
    Calls Tryz.prog 138 #[.string s] w fun e w' => RParse false s w w' e := by
  have hcon : ∀ W, Calls Tryz.prog 172 #[.string s, .string ⟨#[45]⟩] W fun e w' => e = .returned (.string s) ∧ w' = W := fun W => by
    have := trimMinus_any s W
    rw [trim_plain hsg] at this
    exact this
  by_cases hd : DigB s s.size
  · have hd' := digb_plain.1 hd
    have h0 := hd.2.1
    refine (bparse_yes s s false w hcon hs (Nat.le_refl _) hd h0 ?_ (dig_len hd')).mono fun e w' h => h.rparse hd' fun h => by cases h
    have : byteAt s 0 ≠ 45 := fun e => hsg ⟨h0, e⟩
    rw [byteAt_of h0] at this
    simp; omega
  · exact (bparse_no s s w hcon hs (Nat.le_refl _) hd).mono fun e w' h => ⟨h.2, Or.inr ⟨h.1, fun h2 => hd (digb_plain.2 h2.1)⟩⟩
end Go.Proofs.YtiiefpnkpfliiaaGreatDoor
