/-
  By the document: plnref3.Last, Next.
-/
import Derived.Test.YtnodofbpogcheaaJ3
import Derived.Deep.LoopGhost
namespace Go.Proofs.Ytnodofbpogcheaa.Flo
open Go.RowKit View Rd Copy Num Ty Srt

set_option linter.unusedVariables false

/-- Is there a last one? -/
def hasL (F : FV) (x : Int) : Bool := isB F x && decide ((F.B x.toNat).n ≠ 0)
def lastI (F : FV) (x : Int) : IV := if hasL F x = true then F.I x.toNat ((F.B x.toNat).n - 1) else IV.zero

def LastIs (F : FV) (x : Int) (w : World) (e : Ending) (w' : World) : Prop := e = .returned (.tuple #[(lastI F x).val, .bool (hasL F x)]) ∧ Below w.heap.size w w'

end Go.Proofs.Ytnodofbpogcheaa.Flo
