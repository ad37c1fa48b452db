/-
  MUd: reckoned by the kernel: greatest prime from 4096 to 2^15.
-/
import Derived.Test.YtnniipekcbjloaaDoorPU08
namespace Go.Proofs.YtnniipekcbjloaaDoor
open Go.RowKit
theorem okQ_d1 : allM (okQ SAll) 12 4096 = true := by decide +kernel
theorem okQ_d2 : allM (okQ SAll) 12 8192 = true := by decide +kernel
theorem okQ_d3 : allM (okQ SAll) 12 12288 = true := by decide +kernel
theorem okQ_d4 : allM (okQ SAll) 14 16384 = true := by decide +kernel
theorem okQ_d5 : allM (okQ SAll) 0 32768 = true := by decide +kernel
end Go.Proofs.YtnniipekcbjloaaDoor
