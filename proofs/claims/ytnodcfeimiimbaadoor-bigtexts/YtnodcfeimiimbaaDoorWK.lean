/-
  math/bits by the shelf's contracts, laid at this program; how many bits a number has.
-/
import Derived.Test.YtnodcfeimiimbaaDoorWJ
import Derived.Shelf.Small.Bits
import Derived.Shelf.Bits.Mul64
namespace Go.Proofs.YtnodcfeimiimbaaDoor
open Go.RowKit
set_option linter.unusedVariables false
set_option linter.unusedSimpArgs false

def renB : Go.Shelf.Ren := ⟨fun x => if x = 129 then 89 else if x = 134 then 77 else 65, fun x => if x = 3 then 3 else if x = 4 then 4 else if x = 5 then 5 else if x = 9 then 9 else if x = 46 then 83 else 54, fun x => x⟩
theorem lays134 : Lays.n134 Tryd.prog renB := by
  constructor <;> first | (intro w; kernel_rfl) | kernel_rfl
def renM : Go.Shelf.Ren := ⟨fun x => 65, fun x => if x = 3 then 3 else if x = 4 then 4 else if x = 46 then 83 else 54, fun x => x⟩
theorem lays264 : Lays.n264 Tryd.prog renM := by
  constructor <;> first | (intro w; kernel_rfl) | kernel_rfl
theorem leading_any (x : Int) (w : World) (h0 : 0 ≤ x) (h1 : x ≤ 18446744073709551615) :
    Calls Tryd.prog 77 #[.int .u64 x] w fun e w' => e = .returned (.int .i64 (64 - (Lib.bitLen x.toNat : Int))) ∧ w' = w :=
  Any.bits_LeadingZeros64 lays134 x w h0 h1
theorem mul64_any (x y : Nat) (w : World) (hx : x < 18446744073709551616) (hy : y < 18446744073709551616) :
    Calls Tryd.prog 65 #[.int .u64 x, .int .u64 y] w fun e w' => e = .returned (.tuple #[.int .u64 ((x * y / 18446744073709551616 : Nat) : Int), .int .u64 ((x * y % 18446744073709551616 : Nat) : Int)]) ∧ w' = w :=
  Any.bits_Mul64 lays264 x y hx hy w

/-- how many bits: of a row whose top word is z -/
def rowBits (len : Nat) (z : Int) : Int := if len = 0 then 0 else 64 * ((len : Int) - 1) + (Lib.bitLen z.toNat : Int)
theorem bitLen_zero : Lib.bitLen 0 = 0 := by decide
theorem bitLen_le (z : Int) (h0 : 0 ≤ z) (h1 : z < 18446744073709551616) : Lib.bitLen z.toNat ≤ 64 := Lib.bitLen_le z.toNat 64 (by omega) (by omega)
theorem bitLen_halve (z : Int) (h0 : 0 < z) (h1 : z < 18446744073709551616) : Lib.bitLen z.toNat = 1 + Lib.bitLen (z / 2).toNat := by
  rw [Lib.bitLen_half z.toNat (by omega) (by omega)]
  congr 2
  omega

end Go.Proofs.YtnodcfeimiimbaaDoor
