/-
  No cell of these rows narrows 'for every input' (looked for: loops, veiled, ifaces, maps, wideKeys, modest, calm, conditions, laid).
  DERIVED. THE GIVEN ROWS OF THIS SEAT. 2 by the template 'for every input the law returns true; each argument reads behind the call as it read before'; 0 by the template 'total and deterministic' (their statements: YtnodofbpogcheaaTotals.lean).
  GIVEN WITH THE SEED: the statements are not yours to turn. If you find one false, say at which input.
  Laid BY PROGRAM, IN A SANDBOX (cutbox-rows.mjs): the forced cells as the released guide's own fill.sh prints them over the translation bc4703f0d2f0560c… (all of the seat's roots in one cut). By AI agents, Wed Nov 11 2026. No macro, syntax, notation, axiom, sorry.
-/
import Derived.Test.YtnodofbpogcheaaChecked
import GoSem.Claim
import GoSem.ClaimJoined
import GoSem.ClaimMapViews
import Derived.JoinedTies
import Derived.KernelRfl
namespace Go.Proofs.Ytnodofbpogcheaa
/- THE CELL 'sum', in the pinned program and in every row, IS THE sha256 OF THE DUMP (.gsa) THAT YtnodofbpogcheaaProg.lean LOADS. Nothing in Lean hashes anything: it is a label: what it is worth is what the hold of that sum in a sandbox is worth. -/
noncomputable def Try.pinned : Pinned := { name := "ytnodofbpogcheaa", sum := "bc4703f0d2f0560c858ee5d91c3ff72895fdeb268aa746ec86c53a285f3c7498", checked := Try.checked }
namespace Rows
def none {H : Type} : Left H := { results := [], args := [] }

/-- 'plnlaw4.FlowTidies': WHATEVER THE INPUT: true; the input reads as it did. -/
def flowTidiesSpec : ChangeSpec := { name := "flowTidies", fn := fun _ => fun
  | [d1, d2, d3] => { results := [.lit (.bool true)], args := [d1, d2, d3] }
  | _ => none }
def flowTidiesRow : OpenClaim := { program := "ytnodofbpogcheaa", sum := "bc4703f0d2f0560c858ee5d91c3ff72895fdeb268aa746ec86c53a285f3c7498", func := "planish/plnlaw4.FlowTidies", spec := "flowTidies", unfollowed := true, recurses := true, apart := false }
def FlowTidiesSaid : Prop := flowTidiesRow.holds Try.pinned (OpenSpec.ofChange flowTidiesSpec)

/-- ITS FALSE NEIGHBOUR: 'it returns false'. Refute it at one input. -/
def flowTidiesWrong : ChangeSpec := { name := "flowTidies", fn := fun _ => fun
  | [d1, d2, d3] => { results := [.lit (.bool false)], args := [d1, d2, d3] }
  | _ => none }
def FlowTidiesWrongFalsely : Prop := flowTidiesRow.holds Try.pinned (OpenSpec.ofChange flowTidiesWrong)

/-- 'plnlaw6.WfLimits': WHATEVER THE INPUT: true; the input reads as it did. -/
def wfLimitsSpec : ChangeSpec := { name := "wfLimits", fn := fun _ => fun
  | [d1, d2] => { results := [.lit (.bool true)], args := [d1, d2] }
  | _ => none }
def wfLimitsRow : OpenClaim := { program := "ytnodofbpogcheaa", sum := "bc4703f0d2f0560c858ee5d91c3ff72895fdeb268aa746ec86c53a285f3c7498", func := "planish/plnlaw6.WfLimits", spec := "wfLimits", unfollowed := true, recurses := true, apart := false }
def WfLimitsSaid : Prop := wfLimitsRow.holds Try.pinned (OpenSpec.ofChange wfLimitsSpec)

/-- ITS FALSE NEIGHBOUR: 'it returns false'. Refute it at one input. -/
def wfLimitsWrong : ChangeSpec := { name := "wfLimits", fn := fun _ => fun
  | [d1, d2] => { results := [.lit (.bool false)], args := [d1, d2] }
  | _ => none }
def WfLimitsWrongFalsely : Prop := wfLimitsRow.holds Try.pinned (OpenSpec.ofChange wfLimitsWrong)

/- THE SECOND FORM. 'bulk': how many values and letters a reading holds, each counted each time it is reached (what is shared counts as often as it is met; a slice's spare places count too). A statement '..UptoSaid' is the law's where the arguments, and the package variables that the reading takes, are together of bulk at most 1048576: NARROWER than '..Said'. Prove '..Said' where nothing that the law and all that it calls make is longer than what came in: it says more and counts as full. Else prove '..UptoSaid'. A law counts once. -/
mutual
def uptoBulk {H : Type} : DataW H → Nat
  | .lit (.string bytes) => bytes.length + 1
  | .lit _ => 1
  | .nil => 1
  | .ptr d => uptoBulk d + 1
  | .slice elems spare => uptoBulkAll elems + uptoBulkAll spare + 1
  | .agg parts => uptoBulkAll parts + 1
  | .iface _ d => uptoBulk d + 1
  | .map entries => uptoBulkEntries entries + 1
  | .held _ => 1
def uptoBulkAll {H : Type} : List (DataW H) → Nat
  | [] => 0
  | d :: r => uptoBulk d + uptoBulkAll r
def uptoBulkEntries {H : Type} : List (Lit × DataW H) → Nat
  | [] => 0
  | x :: r => uptoBulkEntry x + uptoBulkEntries r
def uptoBulkEntry {H : Type} : Lit × DataW H → Nat
  | (.string bytes, d) => bytes.length + uptoBulk d + 1
  | (_, d) => uptoBulk d + 1
 end
def uptoSmall : (H : Type) → List (DataW H) → Bool := fun _ ds => decide (uptoBulkAll ds ≤ 1048576)
def OpenSpec.upto (s : _root_.Go.ChangeSpec) : _root_.Go.OpenSpec := { _root_.Go.OpenSpec.ofChange s with cond := some uptoSmall }

/-- 'plnlaw4.FlowTidies', WHERE WHAT IT READS IS OF BULK AT MOST 1048576: true; the input reads as it did. -/
def flowTidiesUptoRow : OpenClaim := { program := "ytnodofbpogcheaa", sum := "bc4703f0d2f0560c858ee5d91c3ff72895fdeb268aa746ec86c53a285f3c7498", func := "planish/plnlaw4.FlowTidies", spec := "flowTidies", unfollowed := true, recurses := true, apart := false, narrowed := true }
def FlowTidiesUptoSaid : Prop := flowTidiesUptoRow.holds Try.pinned (OpenSpec.upto flowTidiesSpec)

/-- 'plnlaw6.WfLimits', WHERE WHAT IT READS IS OF BULK AT MOST 1048576: true; the input reads as it did. -/
def wfLimitsUptoRow : OpenClaim := { program := "ytnodofbpogcheaa", sum := "bc4703f0d2f0560c858ee5d91c3ff72895fdeb268aa746ec86c53a285f3c7498", func := "planish/plnlaw6.WfLimits", spec := "wfLimits", unfollowed := true, recurses := true, apart := false, narrowed := true }
def WfLimitsUptoSaid : Prop := wfLimitsUptoRow.holds Try.pinned (OpenSpec.upto wfLimitsSpec)

end Rows
end Go.Proofs.Ytnodofbpogcheaa
