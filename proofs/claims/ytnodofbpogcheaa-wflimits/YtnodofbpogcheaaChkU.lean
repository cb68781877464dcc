/-
  Types that fit, by the document: plnref3.fits at Sel, Call, Ext, Phi, Ret.
-/
import Derived.Test.YtnodofbpogcheaaJ6
import Derived.Test.YtnodofbpogcheaaJ5
import Derived.BigQuiet
import Derived.Deep.QuietTactic
namespace Go.Proofs.Ytnodofbpogcheaa.Chk
open Go.RowKit View Rd Num Opn Copy Go.Proofs.Ytnodofbpogcheaa.Mod

set_option linter.unusedVariables false

end Go.Proofs.Ytnodofbpogcheaa.Chk
