/-
  math/bits by the shelf's contracts, laid at this program; how many bits a number has.
-/
import Derived.Test.YtmjbmgjegiimfaaWJ
import Derived.Shelf.Small.Bits
import Derived.Shelf.Bits.Mul64
namespace Go.Proofs.Ytmjbmgjegiimfaa
open Go.RowKit
set_option linter.unusedVariables false
set_option linter.unusedSimpArgs false

def renB : Go.Shelf.Ren := ⟨fun x => if x = 129 then 71 else if x = 134 then 77 else 80, fun x => if x = 3 then 3 else if x = 4 then 4 else if x = 5 then 5 else if x = 9 then 9 else if x = 46 then 56 else 44, fun x => x⟩
theorem lays134 : Lays.n134 Try.prog renB := by
  constructor <;> first | (intro w; kernel_rfl) | kernel_rfl
theorem lays264 : Lays.n264 Try.prog renB := by
  constructor <;> first | (intro w; kernel_rfl) | kernel_rfl
theorem leading_any (x : Int) (w : World) (h0 : 0 ≤ x) (h1 : x ≤ 18446744073709551615) :
    Calls Try.prog 77 #[.int .u64 x] w fun e w' => e = .returned (.int .i64 (64 - (Lib.bitLen x.toNat : Int))) ∧ w' = w :=
  Any.bits_LeadingZeros64 lays134 x w h0 h1
theorem mul64_any (x y : Nat) (w : World) (hx : x < 18446744073709551616) (hy : y < 18446744073709551616) :
    Calls Try.prog 80 #[.int .u64 x, .int .u64 y] w fun e w' => e = .returned (.tuple #[.int .u64 ((x * y / 18446744073709551616 : Nat) : Int), .int .u64 ((x * y % 18446744073709551616 : Nat) : Int)]) ∧ w' = w :=
  Any.bits_Mul64 lays264 x y hx hy w

/-- how many bits: of a row whose top word is z -/
def rowBits (len : Nat) (z : Int) : Int := if len = 0 then 0 else 64 * ((len : Int) - 1) + (Lib.bitLen z.toNat : Int)
theorem bitLen_zero : Lib.bitLen 0 = 0 := by decide
theorem bitLen_le (z : Int) (h0 : 0 ≤ z) (h1 : z < 18446744073709551616) : Lib.bitLen z.toNat ≤ 64 := Lib.bitLen_le z.toNat 64 (by omega) (by omega)
theorem bitLen_halve (z : Int) (h0 : 0 < z) (h1 : z < 18446744073709551616) : Lib.bitLen z.toNat = 1 + Lib.bitLen (z / 2).toNat := by
  rw [Lib.bitLen_half z.toNat (by omega) (by omega)]
  congr 2
  omega

set_option maxRecDepth 100000 in
set_option maxHeartbeats 1000000 in
theorem nlen_any (ao : Option Addr) (len cap : Nat) (zs : List Int) (w : World) (hr : RowAt w .u64 ao len cap zs) (hW : Wd 18446744073709551616 zs) (hl : len ≤ 4294967296) :
    Calls Try.prog 43 #[.slice ao len cap] w fun e w' => e = .returned (.int .i64 (rowBits len (dig zs (len - 1)))) ∧ w' = w := by
  by_cases hp : 0 < len
  · obtain ⟨b, off, rfl, hlt, hc⟩ := hr.get hp
    have hcell := hc (len - 1) (by omega)
    have hb := hW.dig (by decide) (len - 1)
    obtain ⟨z, hz⟩ : ∃ z, dig zs (len - 1) = z := ⟨_, rfl⟩
    rw [hz] at hcell hb ⊢
    obtain ⟨hb1, hb2⟩ := hb
    have hl0 : ((len : Int) == 0) = false := by simp; omega
    have hbl := bitLen_le z hb1 hb2
    obtain ⟨B, hB⟩ : ∃ B, Lib.bitLen z.toNat = B := ⟨_, rfl⟩
    have HR : Hid (rowBits len z = 64 * ((len : Int) - 1) + (B : Int)) := by show _ = _; rw [← hB]; unfold rowBits; rw [if_neg (by omega)]
    rw [HR.out]
    have HB : Hid (Lib.bitLen z.toNat = B) := hB
    rw [hB] at hbl
    clear hz hc hr hW hB
    go_enter Try.func43, Try.ntmps43
    go_wp2
    go_loop [3, 4] (fun n x => ∃ (m : Nat) (y : Int), m ≤ 64 ∧ 0 ≤ y ∧ y < 18446744073709551616 ∧ n = .int .i64 (64 * ((len : Int) - 1) + (m : Int)) ∧ x = .int .u64 y ∧ m + Lib.bitLen y.toNat = B) (fun _ x => (intOf x).toNat)
    case atStart => exact ⟨0, z, by omega, hb1, hb2, by go_num, rfl, by rw [HB.out]; omega⟩
    case round =>
      obtain ⟨m, y, hm, hy1, hy2, rfl, rfl, hmy⟩ := hrel
      have HM : Hid (m + Lib.bitLen y.toNat = B) := hmy
      clear hmy
      by_cases hy0 : y = 0
      · subst hy0
        go_wp2
        go_ret
        exact ⟨ret_int (by have := HM.out; rw [show Int.toNat 0 = 0 from rfl, bitLen_zero] at this; omega), rfl⟩
      · have hne : (y != 0) = true := by simpa using hy0
        have hh := bitLen_halve y (by omega) hy2
        have HH : Hid (Lib.bitLen y.toNat = 1 + Lib.bitLen (y / 2).toNat) := hh
        have hm2 : m + 1 ≤ 64 := by have := HM.out; have := HH.out; omega
        clear hh
        go_wp2
        go_round
        case rel => exact ⟨m + 1, y / 2, hm2, by omega, by omega, by go_num, by go_num, by have := HM.out; have := HH.out; omega⟩
        case measure => simp [intOf]; omega
  · obtain rfl : len = 0 := by omega
    go_enter Try.func43, Try.ntmps43
    go_wp2
    go_ret
    exact ⟨rfl, rfl⟩

set_option maxRecDepth 100000 in
set_option maxHeartbeats 1000000 in
theorem bitlen_any (ao : Option Addr) (len cap : Nat) (zs : List Int) (w : World) (hr : RowAt w .u64 ao len cap zs) (hW : Wd 18446744073709551616 zs) (hl : len ≤ 4294967296) :
    Calls Try.prog 61 #[.slice ao len cap] w fun e w' => e = .returned (.int .i64 (rowBits len (dig zs (len - 1)))) ∧ w' = w := by
  by_cases hp : 0 < len
  · obtain ⟨b, off, rfl, hlt, hc⟩ := hr.get hp
    have hcell := hc (len - 1) (by omega)
    have hb := hW.dig (by decide) (len - 1)
    obtain ⟨z, hz⟩ : ∃ z, dig zs (len - 1) = z := ⟨_, rfl⟩
    rw [hz] at hcell hb ⊢
    obtain ⟨hb1, hb2⟩ := hb
    have hl0 : ((len : Int) == 0) = false := by simp; omega
    have hbl := bitLen_le z hb1 hb2
    have hcon := leading_any z w hb1 (by omega)
    obtain ⟨B, hB⟩ : ∃ B, Lib.bitLen z.toNat = B := ⟨_, rfl⟩
    have HR : Hid (rowBits len z = 64 * ((len : Int) - 1) + (B : Int)) := by show _ = _; rw [← hB]; unfold rowBits; rw [if_neg (by omega)]
    rw [HR.out]
    rw [hB] at hbl hcon
    clear hz hc hr hW hB
    go_enter Try.func61, Try.ntmps61
    go_wp2_with (go_at_call 77; refine hcon.mono ?_; rintro e w' ⟨rfl, rfl⟩)
    go_ret
    exact ⟨ret_int (by omega), rfl⟩
  · obtain rfl : len = 0 := by omega
    go_enter Try.func61, Try.ntmps61
    go_wp2
    go_ret
    exact ⟨rfl, rfl⟩

set_option maxRecDepth 100000 in
set_option maxHeartbeats 1000000 in
theorem rlen_any (neg : Bool) (ao : Option Addr) (len cap : Nat) (v : Int) (w : World) (hx : IntAt w neg ao len cap v) (hl : len ≤ 4294967296) :
    Calls Try.prog 25 #[.agg #[.bool neg, .slice ao len cap]] w fun e w' => e = .returned (.int .i64 (rowBits len (dig (mag v.natAbs) (len - 1)))) ∧ Below w.heap.size w w' := by
  obtain ⟨W, hT⟩ := One1.mk' w neg ao len cap
  have hR := hx.later hT.below
  clear hx
  go_enter Try.func25, Try.ntmps25
  go_wp2_with (go_at_call 43; rw [← hT.eq]; refine (nlen_any ao len cap _ _ hR.row (mag_wd _) hl).mono ?_; rintro e w' ⟨rfl, rfl⟩)
  go_ret
  exact ⟨rfl, hT.below⟩

end Go.Proofs.Ytmjbmgjegiimfaa
