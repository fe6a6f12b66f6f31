/-
  octet's fresh, Bytes, Len, NewWriter.
-/
import Derived.Test.YtnklnfbalnooaaaWr
namespace Go.Proofs.Ytnklnfbalnooaaa
open Go.RowKit
set_option linter.unusedSimpArgs false
set_option linter.unusedVariables false

end Go.Proofs.Ytnklnfbalnooaaa
