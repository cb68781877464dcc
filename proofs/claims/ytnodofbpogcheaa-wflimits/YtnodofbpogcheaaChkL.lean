/-
  How many may be, by the document: plnref3.limits.
-/
import Derived.Test.YtnodofbpogcheaaChk
namespace Go.Proofs.Ytnodofbpogcheaa.Chk
open Go.RowKit View Rd Num Opn Copy Go.Proofs.Ytnodofbpogcheaa.Mod

set_option linter.unusedVariables false

structure LimF (F : FV) : Prop where
  par : F.par.n ≤ 5
  one : 1 ≤ F.blk.n
  blk : F.blk.n ≤ 40
  ins : fsize F ≤ 300

structure LimM (M : MV) : Prop where
  fns : M.fns.n ≤ 24
  ext : M.ext.n ≤ 12
  glo : M.glo.n ≤ 12
  tab : M.tab.n ≤ 6
  extP : ∀ i, i < M.ext.n → (M.E i).par.n ≤ 5
  gloC : ∀ i, i < M.glo.n → 1 ≤ (M.G i).cel.n ∧ (M.G i).cel.n ≤ 16
  tabF : ∀ i, i < M.tab.n → 1 ≤ (M.T i).cel.n ∧ (M.T i).cel.n ≤ 12
  fnI : ∀ i, i < M.fns.n → LimF (M.F i)

theorem upto2 {p : Nat → Prop} {k : Nat} (h : ∀ i, i < k → p i) (hk : p k) : ∀ i, i < k + 1 → p i := fun i hi => by
  rcases Nat.lt_or_eq_of_le (Nat.le_of_lt_succ hi) with h' | rfl
  · exact h i h'
  · exact hk

end Go.Proofs.Ytnodofbpogcheaa.Chk
