/-
  Whether modules are alike, by the program (ir.Same), and how great they are (ir.Whole, plnref3.Whole).
-/
import Derived.Test.YtbmfimojhcdnbaaSameIr2
namespace Go.Proofs.Ytbmfimojhcdnbaa.Mod
open Go.RowKit View Rd Num Opn Copy

set_option linter.unusedVariables false

def EqE (v u : EV) (f g : Nat → Int) : Prop := v.name.toList = u.name.toList ∧ v.res = u.res ∧ Eqs v.par u.par f g
def EqG (v u : GV) (f g : Nat → Int) : Prop := v.name.toList = u.name.toList ∧ Eqs v.cel u.cel f g

/-- Two modules alike. -/
structure EqM (M O : MV) : Prop where
  ext : M.ext.n = O.ext.n ∧ ∀ i, i < M.ext.n → EqE (M.E i) (O.E i) (M.EP i) (O.EP i)
  glo : M.glo.n = O.glo.n ∧ ∀ i, i < M.glo.n → EqG (M.G i) (O.G i) (M.GC i) (O.GC i)
  tab : M.tab.n = O.tab.n ∧ ∀ i, i < M.tab.n → EqG (M.T i) (O.T i) (M.TF i) (O.TF i)
  fns : M.fns.n = O.fns.n ∧ ∀ i, i < M.fns.n → EqF (M.F i) (O.F i)

end Go.Proofs.Ytbmfimojhcdnbaa.Mod
