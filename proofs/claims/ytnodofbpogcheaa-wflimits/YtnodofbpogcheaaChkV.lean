/-
  Types that fit, by the document: plnref3.fits, at every Ins that has its form.
-/
import Derived.Test.YtnodofbpogcheaaJ6
import Derived.Test.YtnodofbpogcheaaChkT1
import Derived.Test.YtnodofbpogcheaaJ7
import Derived.Test.YtnodofbpogcheaaChkU
import Derived.Test.YtnodofbpogcheaaChkS
namespace Go.Proofs.Ytnodofbpogcheaa.Chk
open Go.RowKit View Rd Num Opn Copy Go.Proofs.Ytnodofbpogcheaa.Mod

set_option linter.unusedVariables false

theorem form_op {v : IV} (h : formB v = true) : 1 ≤ v.op ∧ v.op ≤ 30 := by
  unfold formB at h
  simp only [Bool.and_eq_true, decide_eq_true_eq] at h
  omega

theorem form_args {v : IV} (h : formB v = true) : (mk v.op).a < 0 ∨ (v.args.n : Int) = (mk v.op).a := by
  unfold formB at h
  simp only [Bool.and_eq_true, Bool.or_eq_true, decide_eq_true_eq] at h
  exact h.1.1.1.1.1.1.2

theorem form_sw {v : IV} (h : formB v = true) : swB v = true := by
  unfold formB at h
  simp only [Bool.and_eq_true] at h
  exact h.1.1.2

end Go.Proofs.Ytnodofbpogcheaa.Chk
