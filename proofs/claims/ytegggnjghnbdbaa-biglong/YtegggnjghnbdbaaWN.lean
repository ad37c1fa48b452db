/-
  Walks: the page's own Small.
-/
import Derived.Test.YtegggnjghnbdbaaWM
namespace Go.Proofs.Ytegggnjghnbdbaa
open Go.RowKit
set_option linter.unusedVariables false
set_option linter.unusedSimpArgs false

end Go.Proofs.Ytegggnjghnbdbaa
