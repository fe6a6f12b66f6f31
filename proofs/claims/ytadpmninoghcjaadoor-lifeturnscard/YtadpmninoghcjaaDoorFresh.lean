/-
  octet's fresh, Bytes, Len, NewWriter.
-/
import Derived.Test.YtadpmninoghcjaaDoorWr
namespace Go.Proofs.YtadpmninoghcjaaDoor
open Go.RowKit
set_option linter.unusedSimpArgs false
set_option linter.unusedVariables false

end Go.Proofs.YtadpmninoghcjaaDoor
