/-
  No cell of these rows narrows 'for every input' (looked for: loops, veiled, ifaces, maps, wideKeys, modest, calm, conditions, laid).
  DERIVED. THE GIVEN ROWS OF THIS SEAT. 8 by the template 'for every input the law returns true; each argument reads behind the call as it read before'; 0 by the template 'total and deterministic' (their statements: YtahjippocejphaaTotals.lean).
  GIVEN WITH THE SEED: the statements are not yours to turn. If you find one false, say at which input.
  Laid BY PROGRAM, IN A SANDBOX (cutbox-rows.mjs): the forced cells as the released guide's own fill.sh prints them over the translation c5d26129c729ed6d… (all of the seat's roots in one cut). By AI agents, Wed Nov 11 2026. No macro, syntax, notation, axiom, sorry.
-/
import Derived.Test.YtahjippocejphaaChecked
import GoSem.Claim
import GoSem.ClaimJoined
import GoSem.ClaimMapViews
import Derived.JoinedTies
import Derived.KernelRfl
namespace Go.Proofs.Ytahjippocejphaa
/- THE CELL 'sum', in the pinned program and in every row, IS THE sha256 OF THE DUMP (.gsa) THAT YtahjippocejphaaProg.lean LOADS. Nothing in Lean hashes anything: it is a label: what it is worth is what the hold of that sum in a sandbox is worth. -/
noncomputable def Try.pinned : Pinned := { name := "ytahjippocejphaa", sum := "c5d26129c729ed6dc24bce4cd9ee9a7d2f3aeeddb18e15d94546b4424f6db166", checked := Try.checked }
namespace Rows
def none {H : Type} : Left H := { results := [], args := [] }

/-- 'plnlaw3.IrShuffled': WHATEVER THE INPUT: true; the input reads as it did. -/
def irShuffledSpec : ChangeSpec := { name := "irShuffled", fn := fun _ => fun
  | [d1, d2, d3] => { results := [.lit (.bool true)], args := [d1, d2, d3] }
  | _ => none }
def irShuffledRow : OpenClaim := { program := "ytahjippocejphaa", sum := "c5d26129c729ed6dc24bce4cd9ee9a7d2f3aeeddb18e15d94546b4424f6db166", func := "planish/plnlaw3.IrShuffled", spec := "irShuffled", unfollowed := true, recurses := true, apart := false }
def IrShuffledSaid : Prop := irShuffledRow.holds Try.pinned (OpenSpec.ofChange irShuffledSpec)

/-- ITS FALSE NEIGHBOUR: 'it returns false'. Refute it at one input. -/
def irShuffledWrong : ChangeSpec := { name := "irShuffled", fn := fun _ => fun
  | [d1, d2, d3] => { results := [.lit (.bool false)], args := [d1, d2, d3] }
  | _ => none }
def IrShuffledWrongFalsely : Prop := irShuffledRow.holds Try.pinned (OpenSpec.ofChange irShuffledWrong)

/-- 'plnlaw4.FlowTidies': WHATEVER THE INPUT: true; the input reads as it did. -/
def flowTidiesSpec : ChangeSpec := { name := "flowTidies", fn := fun _ => fun
  | [d1, d2, d3] => { results := [.lit (.bool true)], args := [d1, d2, d3] }
  | _ => none }
def flowTidiesRow : OpenClaim := { program := "ytahjippocejphaa", sum := "c5d26129c729ed6dc24bce4cd9ee9a7d2f3aeeddb18e15d94546b4424f6db166", func := "planish/plnlaw4.FlowTidies", spec := "flowTidies", unfollowed := true, recurses := true, apart := false }
def FlowTidiesSaid : Prop := flowTidiesRow.holds Try.pinned (OpenSpec.ofChange flowTidiesSpec)

/-- ITS FALSE NEIGHBOUR: 'it returns false'. Refute it at one input. -/
def flowTidiesWrong : ChangeSpec := { name := "flowTidies", fn := fun _ => fun
  | [d1, d2, d3] => { results := [.lit (.bool false)], args := [d1, d2, d3] }
  | _ => none }
def FlowTidiesWrongFalsely : Prop := flowTidiesRow.holds Try.pinned (OpenSpec.ofChange flowTidiesWrong)

/-- 'plnlaw5.DomTells': WHATEVER THE INPUT: true; the input reads as it did. -/
def domTellsSpec : ChangeSpec := { name := "domTells", fn := fun _ => fun
  | [d1, d2, d3] => { results := [.lit (.bool true)], args := [d1, d2, d3] }
  | _ => none }
def domTellsRow : OpenClaim := { program := "ytahjippocejphaa", sum := "c5d26129c729ed6dc24bce4cd9ee9a7d2f3aeeddb18e15d94546b4424f6db166", func := "planish/plnlaw5.DomTells", spec := "domTells", apart := false }
def DomTellsSaid : Prop := domTellsRow.holds Try.pinned (OpenSpec.ofChange domTellsSpec)

/-- ITS FALSE NEIGHBOUR: 'it returns false'. Refute it at one input. -/
def domTellsWrong : ChangeSpec := { name := "domTells", fn := fun _ => fun
  | [d1, d2, d3] => { results := [.lit (.bool false)], args := [d1, d2, d3] }
  | _ => none }
def DomTellsWrongFalsely : Prop := domTellsRow.holds Try.pinned (OpenSpec.ofChange domTellsWrong)

/-- 'plnlaw5.DomWays': WHATEVER THE INPUT: true; the input reads as it did. -/
def domWaysSpec : ChangeSpec := { name := "domWays", fn := fun _ => fun
  | [d1, d2] => { results := [.lit (.bool true)], args := [d1, d2] }
  | _ => none }
def domWaysRow : OpenClaim := { program := "ytahjippocejphaa", sum := "c5d26129c729ed6dc24bce4cd9ee9a7d2f3aeeddb18e15d94546b4424f6db166", func := "planish/plnlaw5.DomWays", spec := "domWays", apart := false }
def DomWaysSaid : Prop := domWaysRow.holds Try.pinned (OpenSpec.ofChange domWaysSpec)

/-- ITS FALSE NEIGHBOUR: 'it returns false'. Refute it at one input. -/
def domWaysWrong : ChangeSpec := { name := "domWays", fn := fun _ => fun
  | [d1, d2] => { results := [.lit (.bool false)], args := [d1, d2] }
  | _ => none }
def DomWaysWrongFalsely : Prop := domWaysRow.holds Try.pinned (OpenSpec.ofChange domWaysWrong)

/-- 'plnlaw5.DomTree': WHATEVER THE INPUT: true; the input reads as it did. -/
def domTreeSpec : ChangeSpec := { name := "domTree", fn := fun _ => fun
  | [d1, d2, d3, d4] => { results := [.lit (.bool true)], args := [d1, d2, d3, d4] }
  | _ => none }
def domTreeRow : OpenClaim := { program := "ytahjippocejphaa", sum := "c5d26129c729ed6dc24bce4cd9ee9a7d2f3aeeddb18e15d94546b4424f6db166", func := "planish/plnlaw5.DomTree", spec := "domTree", apart := false }
def DomTreeSaid : Prop := domTreeRow.holds Try.pinned (OpenSpec.ofChange domTreeSpec)

/-- ITS FALSE NEIGHBOUR: 'it returns false'. Refute it at one input. -/
def domTreeWrong : ChangeSpec := { name := "domTree", fn := fun _ => fun
  | [d1, d2, d3, d4] => { results := [.lit (.bool false)], args := [d1, d2, d3, d4] }
  | _ => none }
def DomTreeWrongFalsely : Prop := domTreeRow.holds Try.pinned (OpenSpec.ofChange domTreeWrong)

/-- 'plnlaw5.DomFronts': WHATEVER THE INPUT: true; the input reads as it did. -/
def domFrontsSpec : ChangeSpec := { name := "domFronts", fn := fun _ => fun
  | [d1, d2, d3] => { results := [.lit (.bool true)], args := [d1, d2, d3] }
  | _ => none }
def domFrontsRow : OpenClaim := { program := "ytahjippocejphaa", sum := "c5d26129c729ed6dc24bce4cd9ee9a7d2f3aeeddb18e15d94546b4424f6db166", func := "planish/plnlaw5.DomFronts", spec := "domFronts", apart := false }
def DomFrontsSaid : Prop := domFrontsRow.holds Try.pinned (OpenSpec.ofChange domFrontsSpec)

/-- ITS FALSE NEIGHBOUR: 'it returns false'. Refute it at one input. -/
def domFrontsWrong : ChangeSpec := { name := "domFronts", fn := fun _ => fun
  | [d1, d2, d3] => { results := [.lit (.bool false)], args := [d1, d2, d3] }
  | _ => none }
def DomFrontsWrongFalsely : Prop := domFrontsRow.holds Try.pinned (OpenSpec.ofChange domFrontsWrong)

/-- 'plnlaw6.WfSteps': WHATEVER THE INPUT: true; the input reads as it did. -/
def wfStepsSpec : ChangeSpec := { name := "wfSteps", fn := fun _ => fun
  | [d1, d2, d3] => { results := [.lit (.bool true)], args := [d1, d2, d3] }
  | _ => none }
def wfStepsRow : OpenClaim := { program := "ytahjippocejphaa", sum := "c5d26129c729ed6dc24bce4cd9ee9a7d2f3aeeddb18e15d94546b4424f6db166", func := "planish/plnlaw6.WfSteps", spec := "wfSteps", unfollowed := true, recurses := true, apart := false }
def WfStepsSaid : Prop := wfStepsRow.holds Try.pinned (OpenSpec.ofChange wfStepsSpec)

/-- ITS FALSE NEIGHBOUR: 'it returns false'. Refute it at one input. -/
def wfStepsWrong : ChangeSpec := { name := "wfSteps", fn := fun _ => fun
  | [d1, d2, d3] => { results := [.lit (.bool false)], args := [d1, d2, d3] }
  | _ => none }
def WfStepsWrongFalsely : Prop := wfStepsRow.holds Try.pinned (OpenSpec.ofChange wfStepsWrong)

/-- 'plnlaw6.WfLimits': WHATEVER THE INPUT: true; the input reads as it did. -/
def wfLimitsSpec : ChangeSpec := { name := "wfLimits", fn := fun _ => fun
  | [d1, d2] => { results := [.lit (.bool true)], args := [d1, d2] }
  | _ => none }
def wfLimitsRow : OpenClaim := { program := "ytahjippocejphaa", sum := "c5d26129c729ed6dc24bce4cd9ee9a7d2f3aeeddb18e15d94546b4424f6db166", func := "planish/plnlaw6.WfLimits", spec := "wfLimits", unfollowed := true, recurses := true, apart := false }
def WfLimitsSaid : Prop := wfLimitsRow.holds Try.pinned (OpenSpec.ofChange wfLimitsSpec)

/-- ITS FALSE NEIGHBOUR: 'it returns false'. Refute it at one input. -/
def wfLimitsWrong : ChangeSpec := { name := "wfLimits", fn := fun _ => fun
  | [d1, d2] => { results := [.lit (.bool false)], args := [d1, d2] }
  | _ => none }
def WfLimitsWrongFalsely : Prop := wfLimitsRow.holds Try.pinned (OpenSpec.ofChange wfLimitsWrong)

/- THE SECOND FORM. 'bulk': how many values and letters a reading holds, each counted each time it is reached (what is shared counts as often as it is met; a slice's spare places count too). A statement '..UptoSaid' is the law's where the arguments, and the package variables that the reading takes, are together of bulk at most 1048576: NARROWER than '..Said'. Prove '..Said' where nothing that the law and all that it calls make is longer than what came in: it says more and counts as full. Else prove '..UptoSaid'. A law counts once. -/
mutual
def uptoBulk {H : Type} : DataW H → Nat
  | .lit (.string bytes) => bytes.length + 1
  | .lit _ => 1
  | .nil => 1
  | .ptr d => uptoBulk d + 1
  | .slice elems spare => uptoBulkAll elems + uptoBulkAll spare + 1
  | .agg parts => uptoBulkAll parts + 1
  | .iface _ d => uptoBulk d + 1
  | .map entries => uptoBulkEntries entries + 1
  | .held _ => 1
def uptoBulkAll {H : Type} : List (DataW H) → Nat
  | [] => 0
  | d :: r => uptoBulk d + uptoBulkAll r
def uptoBulkEntries {H : Type} : List (Lit × DataW H) → Nat
  | [] => 0
  | x :: r => uptoBulkEntry x + uptoBulkEntries r
def uptoBulkEntry {H : Type} : Lit × DataW H → Nat
  | (.string bytes, d) => bytes.length + uptoBulk d + 1
  | (_, d) => uptoBulk d + 1
 end
def uptoSmall : (H : Type) → List (DataW H) → Bool := fun _ ds => decide (uptoBulkAll ds ≤ 1048576)
def OpenSpec.upto (s : _root_.Go.ChangeSpec) : _root_.Go.OpenSpec := { _root_.Go.OpenSpec.ofChange s with cond := some uptoSmall }

/-- 'plnlaw3.IrShuffled', WHERE WHAT IT READS IS OF BULK AT MOST 1048576: true; the input reads as it did. -/
def irShuffledUptoRow : OpenClaim := { program := "ytahjippocejphaa", sum := "c5d26129c729ed6dc24bce4cd9ee9a7d2f3aeeddb18e15d94546b4424f6db166", func := "planish/plnlaw3.IrShuffled", spec := "irShuffled", unfollowed := true, recurses := true, apart := false, narrowed := true }
def IrShuffledUptoSaid : Prop := irShuffledUptoRow.holds Try.pinned (OpenSpec.upto irShuffledSpec)

/-- 'plnlaw4.FlowTidies', WHERE WHAT IT READS IS OF BULK AT MOST 1048576: true; the input reads as it did. -/
def flowTidiesUptoRow : OpenClaim := { program := "ytahjippocejphaa", sum := "c5d26129c729ed6dc24bce4cd9ee9a7d2f3aeeddb18e15d94546b4424f6db166", func := "planish/plnlaw4.FlowTidies", spec := "flowTidies", unfollowed := true, recurses := true, apart := false, narrowed := true }
def FlowTidiesUptoSaid : Prop := flowTidiesUptoRow.holds Try.pinned (OpenSpec.upto flowTidiesSpec)

/-- 'plnlaw5.DomTells', WHERE WHAT IT READS IS OF BULK AT MOST 1048576: true; the input reads as it did. -/
def domTellsUptoRow : OpenClaim := { program := "ytahjippocejphaa", sum := "c5d26129c729ed6dc24bce4cd9ee9a7d2f3aeeddb18e15d94546b4424f6db166", func := "planish/plnlaw5.DomTells", spec := "domTells", apart := false, narrowed := true }
def DomTellsUptoSaid : Prop := domTellsUptoRow.holds Try.pinned (OpenSpec.upto domTellsSpec)

/-- 'plnlaw5.DomWays', WHERE WHAT IT READS IS OF BULK AT MOST 1048576: true; the input reads as it did. -/
def domWaysUptoRow : OpenClaim := { program := "ytahjippocejphaa", sum := "c5d26129c729ed6dc24bce4cd9ee9a7d2f3aeeddb18e15d94546b4424f6db166", func := "planish/plnlaw5.DomWays", spec := "domWays", apart := false, narrowed := true }
def DomWaysUptoSaid : Prop := domWaysUptoRow.holds Try.pinned (OpenSpec.upto domWaysSpec)

/-- 'plnlaw5.DomTree', WHERE WHAT IT READS IS OF BULK AT MOST 1048576: true; the input reads as it did. -/
def domTreeUptoRow : OpenClaim := { program := "ytahjippocejphaa", sum := "c5d26129c729ed6dc24bce4cd9ee9a7d2f3aeeddb18e15d94546b4424f6db166", func := "planish/plnlaw5.DomTree", spec := "domTree", apart := false, narrowed := true }
def DomTreeUptoSaid : Prop := domTreeUptoRow.holds Try.pinned (OpenSpec.upto domTreeSpec)

/-- 'plnlaw5.DomFronts', WHERE WHAT IT READS IS OF BULK AT MOST 1048576: true; the input reads as it did. -/
def domFrontsUptoRow : OpenClaim := { program := "ytahjippocejphaa", sum := "c5d26129c729ed6dc24bce4cd9ee9a7d2f3aeeddb18e15d94546b4424f6db166", func := "planish/plnlaw5.DomFronts", spec := "domFronts", apart := false, narrowed := true }
def DomFrontsUptoSaid : Prop := domFrontsUptoRow.holds Try.pinned (OpenSpec.upto domFrontsSpec)

/-- 'plnlaw6.WfSteps', WHERE WHAT IT READS IS OF BULK AT MOST 1048576: true; the input reads as it did. -/
def wfStepsUptoRow : OpenClaim := { program := "ytahjippocejphaa", sum := "c5d26129c729ed6dc24bce4cd9ee9a7d2f3aeeddb18e15d94546b4424f6db166", func := "planish/plnlaw6.WfSteps", spec := "wfSteps", unfollowed := true, recurses := true, apart := false, narrowed := true }
def WfStepsUptoSaid : Prop := wfStepsUptoRow.holds Try.pinned (OpenSpec.upto wfStepsSpec)

/-- 'plnlaw6.WfLimits', WHERE WHAT IT READS IS OF BULK AT MOST 1048576: true; the input reads as it did. -/
def wfLimitsUptoRow : OpenClaim := { program := "ytahjippocejphaa", sum := "c5d26129c729ed6dc24bce4cd9ee9a7d2f3aeeddb18e15d94546b4424f6db166", func := "planish/plnlaw6.WfLimits", spec := "wfLimits", unfollowed := true, recurses := true, apart := false, narrowed := true }
def WfLimitsUptoSaid : Prop := wfLimitsUptoRow.holds Try.pinned (OpenSpec.upto wfLimitsSpec)

end Rows
end Go.Proofs.Ytahjippocejphaa
