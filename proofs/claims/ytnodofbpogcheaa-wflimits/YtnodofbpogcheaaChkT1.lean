/-
  Types that fit, by the document: plnref3.fits, part 1.
-/
import Derived.Test.YtnodofbpogcheaaJ6
namespace Go.Proofs.Ytnodofbpogcheaa.Chk
open Go.RowKit View Rd Num Opn Copy Go.Proofs.Ytnodofbpogcheaa.Mod

set_option linter.unusedVariables false

end Go.Proofs.Ytnodofbpogcheaa.Chk
