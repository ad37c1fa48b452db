/-
  MUb: reckoned by the kernel: greatest prime from 130 to 177.
-/
import Derived.Test.YtnniipekcbjloaaDoorPU08
namespace Go.Proofs.YtnniipekcbjloaaDoor
open Go.RowKit
theorem okQ_b1 : allM (okQ S10) 3 130 = true := by decide +kernel
theorem okQ_b2 : allM (okQ S10) 3 138 = true := by decide +kernel
theorem okQ_b3 : allM (okQ S10) 3 146 = true := by decide +kernel
theorem okQ_b4 : allM (okQ S10) 3 154 = true := by decide +kernel
theorem okQ_b5 : allM (okQ S10) 4 162 = true := by decide +kernel
theorem okQ_b6 : allM (okQ S10) 4 178 = true := by decide +kernel
end Go.Proofs.YtnniipekcbjloaaDoor
