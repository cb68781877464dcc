/-
  No cell of these rows narrows 'for every input' (looked for: loops, veiled, ifaces, maps, wideKeys, modest, calm, conditions, laid).
  DERIVED. THE GIVEN ROWS OF THIS SEAT. 5 by the template 'for every input the law returns true; each argument reads behind the call as it read before'; 0 by the template 'total and deterministic' (their statements: YthaedlnefikigaaTotals.lean).
  GIVEN WITH THE SEED: the statements are not yours to turn. If you find one false, say at which input.
  Laid BY PROGRAM, IN A SANDBOX (cutbox-rows.mjs): the forced cells as the released guide's own fill.sh prints them over the translation 9e6a7da8d2736e0e… (all of the seat's roots in one cut). By AI agents, Wed Nov 11 2026. No macro, syntax, notation, axiom, sorry.
-/
import Derived.Test.YthaedlnefikigaaChecked
import GoSem.Claim
import GoSem.ClaimJoined
import GoSem.ClaimMapViews
import Derived.JoinedTies
import Derived.KernelRfl
namespace Go.Proofs.Ythaedlnefikigaa
/- THE CELL 'sum', in the pinned program and in every row, IS THE sha256 OF THE DUMP (.gsa) THAT YthaedlnefikigaaProg.lean LOADS. Nothing in Lean hashes anything: it is a label: what it is worth is what the hold of that sum in a sandbox is worth. -/
noncomputable def Try.pinned : Pinned := { name := "ythaedlnefikigaa", sum := "9e6a7da8d2736e0e429ea416b2ecfb6dfed70e816336c1a1d825ba9608289357", checked := Try.checked }
namespace Rows
def none {H : Type} : Left H := { results := [], args := [] }

/-- 'plnlaw3.IrTells': WHATEVER THE INPUT: true; the input reads as it did. -/
def irTellsSpec : ChangeSpec := { name := "irTells", fn := fun _ => fun
  | [d1, d2] => { results := [.lit (.bool true)], args := [d1, d2] }
  | _ => none }
def irTellsRow : OpenClaim := { program := "ythaedlnefikigaa", sum := "9e6a7da8d2736e0e429ea416b2ecfb6dfed70e816336c1a1d825ba9608289357", func := "planish/plnlaw3.IrTells", spec := "irTells", unfollowed := true, recurses := true, apart := false }
def IrTellsSaid : Prop := irTellsRow.holds Try.pinned (OpenSpec.ofChange irTellsSpec)

/-- ITS FALSE NEIGHBOUR: 'it returns false'. Refute it at one input. -/
def irTellsWrong : ChangeSpec := { name := "irTells", fn := fun _ => fun
  | [d1, d2] => { results := [.lit (.bool false)], args := [d1, d2] }
  | _ => none }
def IrTellsWrongFalsely : Prop := irTellsRow.holds Try.pinned (OpenSpec.ofChange irTellsWrong)

/-- 'plnlaw3.IrApart': WHATEVER THE INPUT: true; the input reads as it did. -/
def irApartSpec : ChangeSpec := { name := "irApart", fn := fun _ => fun
  | [d] => { results := [.lit (.bool true)], args := [d] }
  | _ => none }
def irApartRow : OpenClaim := { program := "ythaedlnefikigaa", sum := "9e6a7da8d2736e0e429ea416b2ecfb6dfed70e816336c1a1d825ba9608289357", func := "planish/plnlaw3.IrApart", spec := "irApart", unfollowed := true, recurses := true, apart := false }
def IrApartSaid : Prop := irApartRow.holds Try.pinned (OpenSpec.ofChange irApartSpec)

/-- ITS FALSE NEIGHBOUR: 'it returns false'. Refute it at one input. -/
def irApartWrong : ChangeSpec := { name := "irApart", fn := fun _ => fun
  | [d] => { results := [.lit (.bool false)], args := [d] }
  | _ => none }
def IrApartWrongFalsely : Prop := irApartRow.holds Try.pinned (OpenSpec.ofChange irApartWrong)

/-- 'plnlaw3.IrNeat': WHATEVER THE INPUT: true; the input reads as it did. -/
def irNeatSpec : ChangeSpec := { name := "irNeat", fn := fun _ => fun
  | [d] => { results := [.lit (.bool true)], args := [d] }
  | _ => none }
def irNeatRow : OpenClaim := { program := "ythaedlnefikigaa", sum := "9e6a7da8d2736e0e429ea416b2ecfb6dfed70e816336c1a1d825ba9608289357", func := "planish/plnlaw3.IrNeat", spec := "irNeat", unfollowed := true, recurses := true, apart := false }
def IrNeatSaid : Prop := irNeatRow.holds Try.pinned (OpenSpec.ofChange irNeatSpec)

/-- ITS FALSE NEIGHBOUR: 'it returns false'. Refute it at one input. -/
def irNeatWrong : ChangeSpec := { name := "irNeat", fn := fun _ => fun
  | [d] => { results := [.lit (.bool false)], args := [d] }
  | _ => none }
def IrNeatWrongFalsely : Prop := irNeatRow.holds Try.pinned (OpenSpec.ofChange irNeatWrong)

/-- 'plnlaw3.IrTurned': WHATEVER THE INPUT: true; the input reads as it did. -/
def irTurnedSpec : ChangeSpec := { name := "irTurned", fn := fun _ => fun
  | [d1, d2, d3, d4, d5] => { results := [.lit (.bool true)], args := [d1, d2, d3, d4, d5] }
  | _ => none }
def irTurnedRow : OpenClaim := { program := "ythaedlnefikigaa", sum := "9e6a7da8d2736e0e429ea416b2ecfb6dfed70e816336c1a1d825ba9608289357", func := "planish/plnlaw3.IrTurned", spec := "irTurned", unfollowed := true, recurses := true, apart := false }
def IrTurnedSaid : Prop := irTurnedRow.holds Try.pinned (OpenSpec.ofChange irTurnedSpec)

/-- ITS FALSE NEIGHBOUR: 'it returns false'. Refute it at one input. -/
def irTurnedWrong : ChangeSpec := { name := "irTurned", fn := fun _ => fun
  | [d1, d2, d3, d4, d5] => { results := [.lit (.bool false)], args := [d1, d2, d3, d4, d5] }
  | _ => none }
def IrTurnedWrongFalsely : Prop := irTurnedRow.holds Try.pinned (OpenSpec.ofChange irTurnedWrong)

/-- 'plnlaw3.IrShuffled': WHATEVER THE INPUT: true; the input reads as it did. -/
def irShuffledSpec : ChangeSpec := { name := "irShuffled", fn := fun _ => fun
  | [d1, d2, d3] => { results := [.lit (.bool true)], args := [d1, d2, d3] }
  | _ => none }
def irShuffledRow : OpenClaim := { program := "ythaedlnefikigaa", sum := "9e6a7da8d2736e0e429ea416b2ecfb6dfed70e816336c1a1d825ba9608289357", func := "planish/plnlaw3.IrShuffled", spec := "irShuffled", unfollowed := true, recurses := true, apart := false }
def IrShuffledSaid : Prop := irShuffledRow.holds Try.pinned (OpenSpec.ofChange irShuffledSpec)

/-- ITS FALSE NEIGHBOUR: 'it returns false'. Refute it at one input. -/
def irShuffledWrong : ChangeSpec := { name := "irShuffled", fn := fun _ => fun
  | [d1, d2, d3] => { results := [.lit (.bool false)], args := [d1, d2, d3] }
  | _ => none }
def IrShuffledWrongFalsely : Prop := irShuffledRow.holds Try.pinned (OpenSpec.ofChange irShuffledWrong)

/- THE SECOND FORM. 'bulk': how many values and letters a reading holds, each counted each time it is reached (what is shared counts as often as it is met; a slice's spare places count too). A statement '..UptoSaid' is the law's where the arguments, and the package variables that the reading takes, are together of bulk at most 1048576: NARROWER than '..Said'. Prove '..Said' where nothing that the law and all that it calls make is longer than what came in: it says more and counts as full. Else prove '..UptoSaid'. A law counts once. -/
mutual
def uptoBulk {H : Type} : DataW H → Nat
  | .lit (.string bytes) => bytes.length + 1
  | .lit _ => 1
  | .nil => 1
  | .ptr d => uptoBulk d + 1
  | .slice elems spare => uptoBulkAll elems + uptoBulkAll spare + 1
  | .agg parts => uptoBulkAll parts + 1
  | .iface _ d => uptoBulk d + 1
  | .map entries => uptoBulkEntries entries + 1
  | .held _ => 1
def uptoBulkAll {H : Type} : List (DataW H) → Nat
  | [] => 0
  | d :: r => uptoBulk d + uptoBulkAll r
def uptoBulkEntries {H : Type} : List (Lit × DataW H) → Nat
  | [] => 0
  | x :: r => uptoBulkEntry x + uptoBulkEntries r
def uptoBulkEntry {H : Type} : Lit × DataW H → Nat
  | (.string bytes, d) => bytes.length + uptoBulk d + 1
  | (_, d) => uptoBulk d + 1
 end
def uptoSmall : (H : Type) → List (DataW H) → Bool := fun _ ds => decide (uptoBulkAll ds ≤ 1048576)
def OpenSpec.upto (s : _root_.Go.ChangeSpec) : _root_.Go.OpenSpec := { _root_.Go.OpenSpec.ofChange s with cond := some uptoSmall }

/-- 'plnlaw3.IrTells', WHERE WHAT IT READS IS OF BULK AT MOST 1048576: true; the input reads as it did. -/
def irTellsUptoRow : OpenClaim := { program := "ythaedlnefikigaa", sum := "9e6a7da8d2736e0e429ea416b2ecfb6dfed70e816336c1a1d825ba9608289357", func := "planish/plnlaw3.IrTells", spec := "irTells", unfollowed := true, recurses := true, apart := false, narrowed := true }
def IrTellsUptoSaid : Prop := irTellsUptoRow.holds Try.pinned (OpenSpec.upto irTellsSpec)

/-- 'plnlaw3.IrApart', WHERE WHAT IT READS IS OF BULK AT MOST 1048576: true; the input reads as it did. -/
def irApartUptoRow : OpenClaim := { program := "ythaedlnefikigaa", sum := "9e6a7da8d2736e0e429ea416b2ecfb6dfed70e816336c1a1d825ba9608289357", func := "planish/plnlaw3.IrApart", spec := "irApart", unfollowed := true, recurses := true, apart := false, narrowed := true }
def IrApartUptoSaid : Prop := irApartUptoRow.holds Try.pinned (OpenSpec.upto irApartSpec)

/-- 'plnlaw3.IrNeat', WHERE WHAT IT READS IS OF BULK AT MOST 1048576: true; the input reads as it did. -/
def irNeatUptoRow : OpenClaim := { program := "ythaedlnefikigaa", sum := "9e6a7da8d2736e0e429ea416b2ecfb6dfed70e816336c1a1d825ba9608289357", func := "planish/plnlaw3.IrNeat", spec := "irNeat", unfollowed := true, recurses := true, apart := false, narrowed := true }
def IrNeatUptoSaid : Prop := irNeatUptoRow.holds Try.pinned (OpenSpec.upto irNeatSpec)

/-- 'plnlaw3.IrTurned', WHERE WHAT IT READS IS OF BULK AT MOST 1048576: true; the input reads as it did. -/
def irTurnedUptoRow : OpenClaim := { program := "ythaedlnefikigaa", sum := "9e6a7da8d2736e0e429ea416b2ecfb6dfed70e816336c1a1d825ba9608289357", func := "planish/plnlaw3.IrTurned", spec := "irTurned", unfollowed := true, recurses := true, apart := false, narrowed := true }
def IrTurnedUptoSaid : Prop := irTurnedUptoRow.holds Try.pinned (OpenSpec.upto irTurnedSpec)

/-- 'plnlaw3.IrShuffled', WHERE WHAT IT READS IS OF BULK AT MOST 1048576: true; the input reads as it did. -/
def irShuffledUptoRow : OpenClaim := { program := "ythaedlnefikigaa", sum := "9e6a7da8d2736e0e429ea416b2ecfb6dfed70e816336c1a1d825ba9608289357", func := "planish/plnlaw3.IrShuffled", spec := "irShuffled", unfollowed := true, recurses := true, apart := false, narrowed := true }
def IrShuffledUptoSaid : Prop := irShuffledUptoRow.holds Try.pinned (OpenSpec.upto irShuffledSpec)

end Rows
end Go.Proofs.Ythaedlnefikigaa
