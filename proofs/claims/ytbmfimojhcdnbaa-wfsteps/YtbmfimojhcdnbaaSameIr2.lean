/-
  Whether blocks, functions, externs, globals, tables and modules are alike, by the program: ir.SameFunc, ir.Same.
-/
import Derived.Test.YtbmfimojhcdnbaaSameIr
namespace Go.Proofs.Ytbmfimojhcdnbaa.Mod
open Go.RowKit View Rd Num Opn Copy

set_option linter.unusedVariables false

/-- Block j of two functions, alike. -/
def EqB (F G : FV) (j : Nat) : Prop := (F.B j).n = (G.B j).n ∧ ∀ k, k < (F.B j).n → EqI (F.I j k) (G.I j k) (F.A j k) (F.J j k) (G.A j k) (G.J j k)

end Go.Proofs.Ytbmfimojhcdnbaa.Mod
