/-
  MUa: reckoned by the kernel: numbers with a prime above 2^15.
-/
import Derived.Test.YtnniipekcbjloaaDoorPU08
namespace Go.Proofs.YtnniipekcbjloaaDoor
open Go.RowKit
theorem okM_all : allM okM 16 0 = true := by decide +kernel
end Go.Proofs.YtnniipekcbjloaaDoor
