/-
  ChkT2, ChkT3: laid together.
-/
import Derived.Test.YtnodofbpogcheaaJ6
/-
  Types that fit, by the document: plnref3.fits, part 2.
-/
namespace Go.Proofs.Ytnodofbpogcheaa.Chk
open Go.RowKit View Rd Num Opn Copy Go.Proofs.Ytnodofbpogcheaa.Mod

set_option linter.unusedVariables false

end Go.Proofs.Ytnodofbpogcheaa.Chk

/-
  Types that fit, by the document: plnref3.fits, part 3.
-/
namespace Go.Proofs.Ytnodofbpogcheaa.Chk
open Go.RowKit View Rd Num Opn Copy Go.Proofs.Ytnodofbpogcheaa.Mod

set_option linter.unusedVariables false

end Go.Proofs.Ytnodofbpogcheaa.Chk
