/-
  MUf: reckoned by the kernel: greatest prime from 194 to 1023.
-/
import Derived.Test.YtnniipekcbjloaaDoorPU08
namespace Go.Proofs.YtnniipekcbjloaaDoor
open Go.RowKit
theorem okQ_b7 : allM (okQ S10) 5 194 = true := by decide +kernel
theorem okQ_b8 : allM (okQ S10) 5 226 = true := by decide +kernel
theorem okQ_b9 : allM (okQ S10) 6 258 = true := by decide +kernel
theorem okQ_b10 : allM (okQ S10) 7 322 = true := by decide +kernel
theorem okQ_b11 : allM (okQ S10) 8 450 = true := by decide +kernel
theorem okQ_b12 : allM (okQ S10) 9 706 = true := by decide +kernel
end Go.Proofs.YtnniipekcbjloaaDoor
