/-
  MUe: reckoned by the kernel: small primes alone.
-/
import Derived.Test.YtnniipekcbjloaaDoorPU08
namespace Go.Proofs.YtnniipekcbjloaaDoor
open Go.RowKit
theorem ckE_a : ckE 199 prE (Nat.mul 1 11) 10 = true := by decide +kernel
theorem ckE_b : ckE 198 (prE.drop 1) (Nat.mul 1 13) 12 = true := by decide +kernel
theorem ckE_c : ckE 198 (prE.drop 2) 1 1 = true := by decide +kernel
theorem ckE_all : ckE 200 prE 1 1 = true := ckE_cons rfl ckE_a (ckE_cons rfl ckE_b ckE_c)
end Go.Proofs.YtnniipekcbjloaaDoor
