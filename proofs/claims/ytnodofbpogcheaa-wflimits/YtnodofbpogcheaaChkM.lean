/-
  Which forms may be, by the document: plnref3.form, forms.
-/
import Derived.Test.YtnodofbpogcheaaChkF0
import Derived.Test.YtnodofbpogcheaaChkF1
import Derived.Test.YtnodofbpogcheaaChkF2
import Derived.Test.YtnodofbpogcheaaChkF3
namespace Go.Proofs.Ytnodofbpogcheaa.Chk
open Go.RowKit View Rd Num Opn Copy Go.Proofs.Ytnodofbpogcheaa.Mod

set_option linter.unusedVariables false

/-- An extern's form. -/
def FormE (M : MV) (t : Nat) : Prop := 0 ≤ (M.E t).res ∧ (M.E t).res ≤ 2 ∧ ∀ k, k < (M.E t).par.n → M.EP t k = 1 ∨ M.EP t k = 2

/-- A function's head. -/
def FormH (F : FV) : Prop := 0 ≤ F.res ∧ F.res ≤ 4 ∧ F.res ≠ 3 ∧ (F.out = true → F.res ≤ 2)
def FormP (F : FV) (k : Nat) : Prop := 1 ≤ F.P k ∧ F.P k ≤ 4 ∧ (F.out = true → F.P k ≤ 2)
def FormF (F : FV) : Prop := FormH F ∧ (∀ k, k < F.par.n → FormP F k) ∧ ∀ j, j < F.blk.n → ∀ k, k < (F.B j).n → formB (F.I j k) = true

structure FormM (M : MV) : Prop where
  ext : ∀ t, t < M.ext.n → FormE M t
  fns : ∀ t, t < M.fns.n → FormF (M.F t)

theorem upto1 {p : Nat → Prop} {k : Nat} (h : ∀ i, i < k → p i) (hk : p k) : ∀ i, i < k + 1 → p i := fun i hi => by
  rcases Nat.lt_or_eq_of_le (Nat.le_of_lt_succ hi) with h' | rfl
  · exact h i h'
  · exact hk

end Go.Proofs.Ytnodofbpogcheaa.Chk
