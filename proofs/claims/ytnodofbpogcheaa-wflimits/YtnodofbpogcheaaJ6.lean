/-
  ChkT, ChkT0: laid together.
-/
import Derived.Test.YtnodofbpogcheaaChkM
/-
  Types that fit, in plain words.
-/
namespace Go.Proofs.Ytnodofbpogcheaa.Chk
open Go.RowKit View Rd Num Opn Copy Go.Proofs.Ytnodofbpogcheaa.Mod

set_option linter.unusedVariables false

/-- The types g fit an Ins. -/
def FitI (M : MV) (F : FV) (v : IV) (gn : Nat) (g : Nat → Int) : Prop :=
  if v.op = 1 then v.ty = 1 ∨ v.ty = 2 ∧ (v.num = 0 ∨ v.num = 1)
  else if v.op = 2 then v.ty = 4
  else if v.op = 3 ∨ v.op = 18 then v.ty = 3
  else if 4 ≤ v.op ∧ v.op ≤ 13 then v.ty = 1 ∧ g 0 = 1 ∧ g 1 = 1
  else if v.op = 14 ∨ v.op = 15 then v.ty = 2 ∧ g 0 = 1 ∧ g 1 = 1
  else if v.op = 16 then v.ty = 2 ∧ g 0 = 2
  else if v.op = 17 then g 0 = 2 ∧ g 1 = v.ty ∧ g 2 = v.ty
  else if v.op = 19 then v.ty = 3 ∧ g 0 = 3 ∧ g 1 = 1
  else if v.op = 20 then v.ty = 1 ∧ g 0 = 3
  else if v.op = 21 then g 0 = 3 ∧ g 1 = 1
  else if v.op = 22 then ((M.F v.sym.toNat).par.n = gn ∧ ∀ i, i < gn → g i = (M.F v.sym.toNat).P i) ∧ v.ty = (M.F v.sym.toNat).res
  else if v.op = 23 then ((M.E v.sym.toNat).par.n = gn ∧ ∀ i, i < gn → g i = M.EP v.sym.toNat i) ∧ v.ty = (M.E v.sym.toNat).res
  else if v.op = 24 then v.ty = 4 ∧ g 0 = 1
  else if v.op = 25 then g 0 = 4 ∧ v.ty ≠ 3
  else if v.op = 26 then ∀ i, i < gn → g i = v.ty
  else if v.op = 28 then g 0 = 2
  else if v.op = 29 then if F.res = 0 then gn = 0 else gn = 1 ∧ g 0 = F.res
  else True

theorem int_at {w : World} {s : Sl} {f : Nat → Int} (h : Ints w s f) {k : Nat} (hk : k < s.n) :
    ∃ b o, (∀ wx, (Instr.indexAt 28 (.slice s.a s.n s.c) (.int .i64 k)).run Try.prog wx = .ok (.pointer (some ⟨b, o, none⟩)) wx) ∧ w.cell? ⟨b, o, none⟩ = some (.int .i64 (f k)) := h.at hk

end Go.Proofs.Ytnodofbpogcheaa.Chk

/-
  Types that fit, by the document: plnref3.fits, part 0.
-/
namespace Go.Proofs.Ytnodofbpogcheaa.Chk
open Go.RowKit View Rd Num Opn Copy Go.Proofs.Ytnodofbpogcheaa.Mod

set_option linter.unusedVariables false

end Go.Proofs.Ytnodofbpogcheaa.Chk
