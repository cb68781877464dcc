/-
  Which Ins may be, in plain words.
-/
import Derived.Test.YtolipafcoolpgaaGreatChk
import Derived.Deep.Light
namespace Go.Proofs.YtolipafcoolpgaaGreat.Chk
open Go.RowKit View Rd Num Opn Copy Go.Proofs.YtolipafcoolpgaaGreat.Mod

set_option linter.unusedVariables false

def swB (v : IV) : Bool :=
 if v.op = 26 then decide (1 ≤ v.args.n) && decide (v.into.n = v.args.n)
 else if v.op = 29 then decide (v.args.n ≤ 1)
 else if v.op = 25 then decide (1 ≤ v.args.n) && decide (v.args.n ≤ 6)
 else if v.op = 22 ∨ v.op = 23 then decide (v.args.n ≤ 5)
 else if v.op = 18 then decide (1 ≤ v.num) && decide (v.num ≤ 16)
 else true

def formB (v : IV) : Bool :=
 decide (1 ≤ v.op) && decide (v.op ≤ 30) && decide (0 ≤ v.ty) && decide (v.ty ≤ 4) &&
 (decide ((mk v.op).a < 0) || decide ((v.args.n : Int) = (mk v.op).a)) && (decide ((mk v.op).i < 0) || decide ((v.into.n : Int) = (mk v.op).i)) && ((mk v.op).s || decide (v.sym = 0)) && ((mk v.op).n || decide (v.num = 0)) &&
 swB v && ((decide (v.op = 25 ∨ v.op = 22 ∨ v.op = 23)) || ((decide (v.op = 21) || endB v.op) == decide (v.ty = 0))) &&
 ((decide (v.ty = 0) && decide (v.to = 0)) || (decide (v.ty ≠ 0) && decide (1 ≤ v.to)))

end Go.Proofs.YtolipafcoolpgaaGreat.Chk
