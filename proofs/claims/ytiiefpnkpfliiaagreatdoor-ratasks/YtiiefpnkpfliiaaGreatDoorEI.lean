/-
  Walks: power (short numbers).
-/
import Derived.Test.YtiiefpnkpfliiaaGreatDoorEH
import Derived.Lib.RabinKarpLaws
namespace Go.Proofs.YtiiefpnkpfliiaaGreatDoor
open Go.RowKit Go.Shelf
set_option linter.unusedVariables false
set_option linter.unusedSimpArgs false

def renC : Go.Shelf.Ren := ⟨fun x => if x = 125 then 153 else if x = 128 then 173 else 157, fun x => if x = 3 then 3 else if x = 4 then 4 else if x = 5 then 5 else if x = 9 then 9 else if x = 46 then 91 else if x = 51 then 98 else 59, fun x => x⟩
theorem lays125 : Lays.n125 Tryz.prog renC := by
  constructor <;> first | (intro w; kernel_rfl) | kernel_rfl
theorem len_any (x : Int) (w : World) (h0 : 0 ≤ x) (h1 : x ≤ 18446744073709551615) :
    Calls Tryz.prog 153 #[.int .u64 x] w fun e w' => e = .returned (.int .i64 (Lib.bitLen x.toNat)) ∧ w' = w :=
  Any.bits_Len lays125 x w h0 h1

theorem pow_le' {a k n : Nat} (h1 : 1 ≤ k) (h2 : k ≤ n) : a ^ k ≤ a ^ n := by
  by_cases h : a = 0
  · subst h; rw [Nat.zero_pow (by omega)]; exact Nat.zero_le _
  · exact Nat.pow_le_pow_right (by omega) h2
theorem pow_len {a k n : Nat} (h1 : 1 ≤ k) (h2 : k ≤ n) : (mag (a ^ k)).length ≤ (mag (a ^ n)).length := mag_len_mono (pow_le' h1 h2)

theorem mag_len_mul (a b : Nat) : (mag (a * b)).length ≤ (mag a).length + (mag b).length := by
  apply mag_len_le
  have h1 := mag_len_lt (n := a) rfl
  have h2 := mag_len_lt (n := b) rfl
  rw [Int.natCast_mul, Int.pow_add]
  by_cases hb : b = 0
  · subst hb
    rw [Int.natCast_zero, Int.mul_zero]
    exact Int.mul_pos (Int.pow_pos (by decide)) (Int.pow_pos (by decide))
  · exact Int.lt_of_lt_of_le (Int.mul_lt_mul_of_pos_right h1 (by omega)) (Int.mul_le_mul_of_nonneg_left (Int.le_of_lt h2) (Int.le_of_lt (Int.pow_pos (by decide))))
theorem pow_half_len {a n : Nat} (h : (mag (a ^ n)).length < 40) : (mag (a ^ (n / 2))).length < 40 := by
  by_cases h1 : n / 2 = 0
  · rw [h1, Nat.pow_zero]; have := mag_len_one (n := 1) (by decide); omega
  · exact Nat.lt_of_le_of_lt (pow_len (by omega) (Nat.div_le_self _ _)) h
theorem pow_top {n l : Nat} (h1 : 2 ^ (l - 1) ≤ n) (h2 : n < 2 ^ l) (h3 : 1 ≤ l) : n / 2 ^ (l - 1) = 1 := by
  have e : 2 ^ l = 2 * 2 ^ (l - 1) := by rw [Nat.mul_comm, ← Nat.pow_succ]; congr 1; omega
  have h4 : n / 2 ^ (l - 1) < 2 := (Nat.div_lt_iff_lt_mul (Nat.pow_pos (by decide))).2 (by omega)
  have h5 : 1 ≤ n / 2 ^ (l - 1) := (Nat.le_div_iff_mul_le (Nat.pow_pos (by decide))).2 (by omega)
  omega
/-- the row of the power so far -/
def PowAt (w wr : World) (v : Value) (a n b : Nat) : Prop :=
  ∃ ao l c, v = .slice ao l c ∧ Own w.heap.size wr .u64 59 ao l c (mag (a ^ (n / 2 ^ b))) ∧ Below w.heap.size w wr

set_option maxRecDepth 100000 in
set_option maxHeartbeats 1000000 in
theorem power_small (ao : Option Addr) (la ca n : Nat) (a : Nat) (w : World) (hx : RowAt w .u64 ao la ca (mag a)) (hn : n < 4294967296) (hl40 : la < 40) (h40 : (mag (a ^ (n / 2))).length < 40) :
    Calls Tryz.prog 139 #[.slice ao la ca, .int .i64 (n : Int)] w fun e w' => NewNat w w' e (a ^ n) := by
  obtain ⟨i0, hi, hz0, hz1, hz2⟩ := info_parts info64
  by_cases h0 : n = 0
  · subst h0
    have hbk : Hid (Blk (w.alloc (.cells #[.int .u64 1] 59)) w.heap.size .u64 59 [1]) := Blk.new w .u64 59 [1]
    have HM : Hid (mag (a ^ 0) = [1]) := by show _ = _; rw [Nat.pow_zero]; exact mag_one (by decide) (by decide)
    go_enter Tryz.func139, Tryz.ntmps139
    go_wp2
    go_ret
    exact ⟨_, _, _, rfl, by rw [HM.out]; exact Own.whole hbk.out (Nat.le_refl _) rfl, (Below.refl _ _).alloc (Nat.le_refl _) _⟩
  · have h0' : ((n : Int) == 0) = false := by simp; omega
    have hlen := fun w => len_any (n : Int) w (by omega) (by omega)
    simp only [Int.toNat_natCast] at hlen
    obtain ⟨b1, b2, b3⟩ := bitLen_bounds (y := n) (by omega) (by omega)
    have b4 : Lib.bitLen n ≤ 64 := Lib.bitLen_le n 64 (by omega) (by omega)
    obtain ⟨l, hl⟩ : ∃ l, Lib.bitLen n = l := ⟨_, rfl⟩
    simp only [hl] at hlen b1 b2 b3 b4
    have HX : Hid (RowAt w .u64 ao la ca (mag a)) := hx
    clear hx hl
    have HP : Hid (2 ^ (l - 1) ≤ n ∧ n < 2 ^ l ∧ 1 ≤ l) := ⟨b2, b3, by omega⟩
    clear b2 b3
    go_enter Tryz.func139, Tryz.ntmps139
    go_wp2_with (first
      | (go_at_call 100; refine (clone_any ao la ca (mag a) w HX.out (by omega)).mono ?_; rintro e w2 ⟨ao2, l2, c2, rfl, ho2, hb2⟩)
      | (go_at_call 153; refine (hlen w2).mono ?_; rintro e w3 ⟨rfl, hw3⟩; replace hw3 := hw3.symm; subst hw3))
    go_loopw [5, 6] (fun z i wr => ∃ b : Nat, i = .int .i64 ((b : Int) - 1) ∧ b < 64 ∧ 1 ≤ n / 2 ^ b ∧ PowAt w wr z a n b) (fun _ i _ => (intOf i + 1).toNat)
    case atStart =>
      exact ⟨l - 1, by go_num, by omega, (Nat.le_div_iff_mul_le (Nat.pow_pos (by decide))).2 (by have := HP.out.1; omega), ao2, l2, c2, rfl, by rw [show n / 2 ^ (l - 1) = 1 from pow_top HP.out.1 HP.out.2.1 HP.out.2.2, Nat.pow_one]; exact ho2, hb2⟩
    case round =>
      obtain ⟨b, rfl, hb64, hk, ao1, l1, c1, rfl, ho1, hbe1⟩ := hrel
      have HO : Hid (Own w.heap.size wr .u64 59 ao1 l1 c1 (mag (a ^ (n / 2 ^ b))) ∧ Below w.heap.size w wr) := ⟨ho1, hbe1⟩
      clear ho1 hbe1
      rcases b with _ | b
      · go_wp2
        go_ret
        refine ⟨ao1, l1, c1, rfl, ?_, HO.out.2⟩
        have := HO.out.1
        rw [Nat.pow_zero, Nat.div_one] at this; exact this
      · have hcast : (n : Int) / 2 ^ b = ((n / 2 ^ b : Nat) : Int) := by rw [Int.natCast_ediv, Int.natCast_pow]; rfl
        have hand : bits BinOp.and IntKind.i64 ((n : Int) / 2 ^ b) 1 = ((n / 2 ^ b % 2 : Nat) : Int) := by
          rw [hcast]; exact Go.Proofs.and_one _ (Nat.lt_of_le_of_lt (Nat.div_le_self _ _) (by omega))
        have hk' : Hid (1 ≤ n / 2 ^ b) := by
          show _ ≤ _
          rw [Nat.pow_succ, ← Nat.div_div_eq_div_mul] at hk; omega
        have hph := pow_half a n b
        have hl1 : l1 < 40 := by
          have h1 : n / 2 ^ (b + 1) ≤ n / 2 := by
            rw [Nat.pow_succ, Nat.mul_comm, ← Nat.div_div_eq_div_mul]; exact Nat.div_le_self _ _
          rw [HO.out.1.row.hlen]; exact Nat.lt_of_le_of_lt (pow_len hk h1) h40
        have HL : Hid ((mag (a ^ (n / 2 ^ (b + 1)) * a ^ (n / 2 ^ (b + 1)))).length < 80) := by
          show _ < _
          have h1 := mag_len_mul (a ^ (n / 2 ^ (b + 1))) (a ^ (n / 2 ^ (b + 1)))
          have h2 := HO.out.1.row.hlen
          omega
        clear hcast
        by_cases hbit : n / 2 ^ b % 2 = 1
        · rw [hbit] at hand hph
          rw [Nat.pow_one] at hph
          have HPH : Hid (a ^ (n / 2 ^ b) = a ^ (n / 2 ^ (b + 1)) * a ^ (n / 2 ^ (b + 1)) * a) := hph
          clear hph hk hbit
          go_wp2_with (first
            | (go_at_call 149; have _t := ho4; refine (times_small ao4 ao l4 c4 la ca _ _ w4 ho4.row ((HX.out.later HO.out.2).later hb4) (by omega) (by omega) (Or.inr hl40)).mono ?_; rintro e w5 ⟨ao5, l5, c5, rfl, ho5, hb5⟩)
            | (go_at_call 149; refine (times_small ao1 ao1 l1 c1 l1 c1 _ _ wr HO.out.1.row HO.out.1.row (by omega) (by omega) (Or.inl hl1)).mono ?_; rintro e w4 ⟨ao4, l4, c4, rfl, ho4, hb4⟩; have hl4 : l4 < 80 := (by rw [ho4.row.hlen]; exact HL.out)))
          go_roundw
          case rel => exact ⟨b, rfl, by omega, hk'.out, ao5, l5, c5, rfl, by rw [HPH.out]; exact (ho5.mono (Nat.le_trans HO.out.2.size hb4.size)), (HO.out.2.trans (below_less hb4 HO.out.2.size)).trans (below_less hb5 (Nat.le_trans HO.out.2.size hb4.size))⟩
          case measure => simp [intOf]
        · have hbit0 : n / 2 ^ b % 2 = 0 := by omega
          rw [hbit0] at hand hph
          rw [Nat.pow_zero, Nat.mul_one] at hph
          have HPH : Hid (a ^ (n / 2 ^ b) = a ^ (n / 2 ^ (b + 1)) * a ^ (n / 2 ^ (b + 1))) := hph
          clear hph hk hbit hbit0
          go_wp2_with (first
            | (go_at_call 149; refine (times_small ao1 ao1 l1 c1 l1 c1 _ _ wr HO.out.1.row HO.out.1.row (by omega) (by omega) (Or.inl hl1)).mono ?_; rintro e w4 ⟨ao4, l4, c4, rfl, ho4, hb4⟩))
          go_roundw
          case rel => exact ⟨b, rfl, by omega, hk'.out, ao4, l4, c4, rfl, by rw [HPH.out]; exact (ho4.mono HO.out.2.size), HO.out.2.trans (below_less hb4 HO.out.2.size)⟩
          case measure => simp [intOf]
end Go.Proofs.YtiiefpnkpfliiaaGreatDoor
