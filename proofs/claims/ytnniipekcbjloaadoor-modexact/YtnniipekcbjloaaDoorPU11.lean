/-
  MUc: reckoned by the kernel: greatest prime from 1024 to 4095.
-/
import Derived.Test.YtnniipekcbjloaaDoorPU08
namespace Go.Proofs.YtnniipekcbjloaaDoor
open Go.RowKit
theorem okQ_c1 : allM (okQ S12) 8 1024 = true := by decide +kernel
theorem okQ_c2 : allM (okQ S12) 8 1280 = true := by decide +kernel
theorem okQ_c3 : allM (okQ S12) 9 1536 = true := by decide +kernel
theorem okQ_c4 : allM (okQ S12) 10 2048 = true := by decide +kernel
theorem okQ_c5 : allM (okQ S12) 10 3072 = true := by decide +kernel
end Go.Proofs.YtnniipekcbjloaaDoor
