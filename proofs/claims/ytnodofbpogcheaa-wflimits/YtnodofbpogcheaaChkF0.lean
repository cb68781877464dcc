/-
  Which Ins may be, by the document: plnref3.form, part 0.
-/
import Derived.Test.YtnodofbpogcheaaChkP
namespace Go.Proofs.Ytnodofbpogcheaa.Chk
open Go.RowKit View Rd Num Opn Copy Go.Proofs.Ytnodofbpogcheaa.Mod

set_option linter.unusedVariables false

end Go.Proofs.Ytnodofbpogcheaa.Chk
