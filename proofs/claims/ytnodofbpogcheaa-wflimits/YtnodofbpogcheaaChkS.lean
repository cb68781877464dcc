/-
  What is named is there, by the document: plnref3.syms.
-/
import Derived.Test.YtnodofbpogcheaaChkL
namespace Go.Proofs.Ytnodofbpogcheaa.Chk
open Go.RowKit View Rd Num Opn Copy Go.Proofs.Ytnodofbpogcheaa.Mod

set_option linter.unusedVariables false

def symN (M : MV) (op : Int) : Nat := if op = 2 ∨ op = 22 then M.fns.n else if op = 3 then M.glo.n else if op = 23 then M.ext.n else if op = 24 then M.tab.n else 1

def SymI (M : MV) (v : IV) : Prop := 0 ≤ v.sym ∧ v.sym < symN M v.op

structure SymM (M : MV) : Prop where
  tab : ∀ i, i < M.tab.n → ∀ k, k < (M.T i).cel.n → -1 ≤ M.TF i k ∧ M.TF i k < M.fns.n
  ins : ∀ i, i < M.fns.n → ∀ j, j < (M.F i).blk.n → ∀ k, k < ((M.F i).B j).n → SymI M ((M.F i).I j k)

end Go.Proofs.Ytnodofbpogcheaa.Chk
