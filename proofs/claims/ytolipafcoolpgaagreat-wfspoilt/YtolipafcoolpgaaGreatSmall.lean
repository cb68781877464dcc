/-
  Whether a module is light enough: the contract of plnkeep.Small.
-/
import Derived.Test.YtolipafcoolpgaaGreatJ1
namespace Go.Proofs.YtolipafcoolpgaaGreat.Mod
open Go.RowKit View Rd Num Opn Copy

set_option linter.unusedVariables false

def fsize (F : FV) : Nat := cnt (fun j => (F.B j).n) F.blk.n

structure SmallM (M : MV) : Prop where
 ext : M.ext.n ≤ 14
 glo : M.glo.n ≤ 14
 tab : M.tab.n ≤ 8
 fns : M.fns.n ≤ 26
 extI : ∀ i, i < M.ext.n → (M.E i).name.size ≤ 40 ∧ (M.E i).par.n ≤ 10
 gloI : ∀ i, i < M.glo.n → (M.G i).name.size ≤ 40 ∧ (M.G i).cel.n ≤ 20
 tabI : ∀ i, i < M.tab.n → (M.T i).name.size ≤ 40 ∧ (M.T i).cel.n ≤ 16
 light : ∀ k, k < M.fns.n → Light (M.F k)
 all : cnt (fun k => fsize (M.F k)) M.fns.n ≤ 400

abbrev mcells (M : MV) : Array Value := #[.slice M.ext.a M.ext.n M.ext.c, .slice M.glo.a M.glo.n M.glo.c, .slice M.tab.a M.tab.n M.tab.c, .slice M.fns.a M.fns.n M.fns.c]

end Go.Proofs.YtolipafcoolpgaaGreat.Mod
