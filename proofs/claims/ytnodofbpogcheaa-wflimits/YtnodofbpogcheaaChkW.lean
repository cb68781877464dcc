/-
  Blocks that fit together, by the document: plnref3.flows.
-/
import Derived.Test.YtnodofbpogcheaaChkM
import Derived.Test.YtnodofbpogcheaaJ4
import Derived.Test.YtnodofbpogcheaaJ5
import Derived.BigQuiet
import Derived.Deep.QuietTactic
import Derived.BigRegion
namespace Go.Proofs.Ytnodofbpogcheaa.Chk
open Go.RowKit View Rd Num Opn Copy Go.Proofs.Ytnodofbpogcheaa.Mod Go.Proofs.Ytnodofbpogcheaa.Flo

set_option linter.unusedVariables false

/-- An Ins at its place. -/
def FlowI (F : FV) (b k : Nat) : Prop := endB (F.I b k).op = decide (k = (F.B b).n - 1) ∧ ¬ (0 < k ∧ (F.I b k).op = 26 ∧ (F.I b (k - 1)).op ≠ 26)

/-- A block's end. -/
def FlowE (F : FV) (b : Nat) : Prop := (∀ i, i < (F.I b ((F.B b).n - 1)).into.n → 1 ≤ F.J b ((F.B b).n - 1) i ∧ F.J b ((F.B b).n - 1) i < F.blk.n) ∧ ((F.I b ((F.B b).n - 1)).op = 28 → F.J b ((F.B b).n - 1) 0 ≠ F.J b ((F.B b).n - 1) 1)

def FlowB (F : FV) (b : Nat) : Prop := 1 ≤ (F.B b).n ∧ (∀ k, k < (F.B b).n → FlowI F b k) ∧ FlowE F b

/-- What comes from where. -/
def FlowP (F : FV) (b k : Nat) : Prop := (F.I b k).op = 26 → b ≠ 0 ∧ (F.I b k).into.n = (pvL F F.blk.n b).length ∧ ∀ i, i < (F.I b k).into.n → F.J b k i = ((pvL F F.blk.n b).getD i 0 : Nat)

def FlowR (F : FV) (b : Nat) : Prop := Go.Proofs.Ytnodofbpogcheaa.Flo.Way (su F) 0 b ∧ ∀ k, k < (F.B b).n → FlowP F b k

def FlowF (F : FV) : Prop := (∀ b, b < F.blk.n → FlowB F b) ∧ ∀ b, b < F.blk.n → FlowR F b

theorem prevs_at {g n x : Nat} (hx : x < n) : ∀ wx, (Instr.indexAt 58 (.slice (some ⟨g, 0, none⟩) n n) (.int .i64 x)).run Try.prog wx = .ok (.pointer (some ⟨g, x, none⟩)) wx := by
  have := index_row (s := ⟨some ⟨g, 0, none⟩, n, n⟩) rfl underlying58 size28 hx
  simpa using this

theorem br_two {v : IV} (h : formB v = true) (ho : v.op = 28) : v.into.n = 2 := by
  unfold formB at h
  rw [ho] at h
  simp [mk] at h
  omega

end Go.Proofs.Ytnodofbpogcheaa.Chk
