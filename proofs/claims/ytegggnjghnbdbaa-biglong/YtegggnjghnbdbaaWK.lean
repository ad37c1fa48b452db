/-
  math/bits by the shelf's contracts, laid at this program; how many bits a number has.
-/
import Derived.Test.YtegggnjghnbdbaaWJ
import Derived.Shelf.Small.Bits
import Derived.Shelf.Bits.Mul64
namespace Go.Proofs.Ytegggnjghnbdbaa
open Go.RowKit
set_option linter.unusedVariables false
set_option linter.unusedSimpArgs false

def renB : Go.Shelf.Ren := ⟨fun x => if x = 129 then 67 else if x = 134 then 60 else 70, fun x => if x = 3 then 3 else if x = 4 then 4 else if x = 5 then 5 else if x = 9 then 9 else if x = 46 then 49 else 51, fun x => x⟩
theorem lays134 : Lays.n134 Try.prog renB := by
  constructor <;> first | (intro w; kernel_rfl) | kernel_rfl
theorem lays264 : Lays.n264 Try.prog renB := by
  constructor <;> first | (intro w; kernel_rfl) | kernel_rfl
theorem leading_any (x : Int) (w : World) (h0 : 0 ≤ x) (h1 : x ≤ 18446744073709551615) :
    Calls Try.prog 60 #[.int .u64 x] w fun e w' => e = .returned (.int .i64 (64 - (Lib.bitLen x.toNat : Int))) ∧ w' = w :=
  Any.bits_LeadingZeros64 lays134 x w h0 h1
theorem mul64_any (x y : Nat) (w : World) (hx : x < 18446744073709551616) (hy : y < 18446744073709551616) :
    Calls Try.prog 70 #[.int .u64 x, .int .u64 y] w fun e w' => e = .returned (.tuple #[.int .u64 ((x * y / 18446744073709551616 : Nat) : Int), .int .u64 ((x * y % 18446744073709551616 : Nat) : Int)]) ∧ w' = w :=
  Any.bits_Mul64 lays264 x y hx hy w

/-- how many bits: of a row whose top word is z -/
def rowBits (len : Nat) (z : Int) : Int := if len = 0 then 0 else 64 * ((len : Int) - 1) + (Lib.bitLen z.toNat : Int)
theorem bitLen_zero : Lib.bitLen 0 = 0 := by decide
theorem bitLen_le (z : Int) (h0 : 0 ≤ z) (h1 : z < 18446744073709551616) : Lib.bitLen z.toNat ≤ 64 := Lib.bitLen_le z.toNat 64 (by omega) (by omega)
theorem bitLen_halve (z : Int) (h0 : 0 < z) (h1 : z < 18446744073709551616) : Lib.bitLen z.toNat = 1 + Lib.bitLen (z / 2).toNat := by
  rw [Lib.bitLen_half z.toNat (by omega) (by omega)]
  congr 2
  omega

set_option maxRecDepth 100000 in
set_option maxHeartbeats 1000000 in
theorem bitlen_any (ao : Option Addr) (len cap : Nat) (zs : List Int) (w : World) (hr : RowAt w .u64 ao len cap zs) (hW : Wd 18446744073709551616 zs) (hl : len ≤ 4294967296) :
    Calls Try.prog 51 #[.slice ao len cap] w fun e w' => e = .returned (.int .i64 (rowBits len (dig zs (len - 1)))) ∧ w' = w := by
  by_cases hp : 0 < len
  · obtain ⟨b, off, rfl, hlt, hc⟩ := hr.get hp
    have hcell := hc (len - 1) (by omega)
    have hb := hW.dig (by decide) (len - 1)
    obtain ⟨z, hz⟩ : ∃ z, dig zs (len - 1) = z := ⟨_, rfl⟩
    rw [hz] at hcell hb ⊢
    obtain ⟨hb1, hb2⟩ := hb
    have hl0 : ((len : Int) == 0) = false := by simp; omega
    have hbl := bitLen_le z hb1 hb2
    have hcon := leading_any z w hb1 (by omega)
    obtain ⟨B, hB⟩ : ∃ B, Lib.bitLen z.toNat = B := ⟨_, rfl⟩
    have HR : Hid (rowBits len z = 64 * ((len : Int) - 1) + (B : Int)) := by show _ = _; rw [← hB]; unfold rowBits; rw [if_neg (by omega)]
    rw [HR.out]
    rw [hB] at hbl hcon
    clear hz hc hr hW hB
    go_enter Try.func51, Try.ntmps51
    go_wp2_with (go_at_call 60; refine hcon.mono ?_; rintro e w' ⟨rfl, rfl⟩)
    go_ret
    exact ⟨ret_int (by omega), rfl⟩
  · obtain rfl : len = 0 := by omega
    go_enter Try.func51, Try.ntmps51
    go_wp2
    go_ret
    exact ⟨rfl, rfl⟩

end Go.Proofs.Ytegggnjghnbdbaa
