/-
  By the document, what stands in a front: the plain part of plnref3.Front.
-/
import Derived.Test.YtahjippocejphaaDmp
namespace Go.Proofs.Ytahjippocejphaa.Dm
open Go.RowKit View Rd Copy Num Ty Srt Go.Proofs.Ytahjippocejphaa.Flo Go.Proofs.Ytahjippocejphaa.Lt

set_option linter.unusedVariables false

theorem frA_iff {F : FV} {a b t : Nat} (h : a = b ∨ ¬ DomR F a b) : FrA F b t a ↔ ∃ i, i < t ∧ DomR F a ((pvL F F.blk.n b).getD i 0) :=
  ⟨fun ⟨i, h1, _, h3⟩ => ⟨i, h1, h3.1⟩, fun ⟨i, h1, h2⟩ => ⟨i, h1, h2.2.1, h2, h⟩⟩

theorem not_frA_over {F : FV} {a b t : Nat} (hne : a ≠ b) (h : DomR F a b) : ¬ FrA F b t a := fun ⟨i, _, _, h3⟩ => by
  rcases h3.2 with e | e
  · exact hne e
  · exact e h

theorem not_frA_a {F : FV} {a b t : Nat} (h : ¬ Go.Proofs.Ytahjippocejphaa.Flo.Way (su F) 0 a) : ¬ FrA F b t a := fun ⟨i, _, _, h3⟩ => h h3.1.1

theorem not_frA_b {F : FV} {a b t : Nat} (ht : t ≤ (pvL F F.blk.n b).length) (h : ¬ Go.Proofs.Ytahjippocejphaa.Flo.Way (su F) 0 b) : ¬ FrA F b t a := fun ⟨i, h1, h2, h3⟩ =>
  h (.step h2 (mem_pvL.1 (getD_mem (by omega : i < (pvL F F.blk.n b).length))).2)

/-- The rows, where the outer loop stands at a and the inner one at b. -/
noncomputable def frG (F : FV) (n a b x : Nat) : List Nat := if x < a then frL F n x else if x = a then frL F b x else []

theorem frG_start (F : FV) (n x : Nat) : frG F n 0 0 x = [] := by
  unfold frG
  rw [if_neg (by omega)]
  split <;> simp [frL]

theorem frG_row (F : FV) (n a x : Nat) : frG F n a n x = frG F n (a + 1) 0 x := by
  unfold frG
  by_cases h : x < a
  · rw [if_pos h, if_pos (by omega)]
  · by_cases e : x = a
    · rw [if_neg h, if_pos e, if_pos (by omega)]
    · rw [if_neg h, if_neg e, if_neg (by omega)]
      split <;> simp [frL]

theorem frG_skip {F : FV} {a b : Nat} (h : ¬ FrA F b (pvL F F.blk.n b).length a) (n x : Nat) : frG F n a b x = frG F n a (b + 1) x := by
  unfold frG
  by_cases e : x = a
  · subst e
    rw [frL_next]
    unfold frT
    simp [h]
  · simp [e]

theorem frG_put {F : FV} {a b : Nat} (h : FrA F b (pvL F F.blk.n b).length a) (n x : Nat) : (if x = a then frG F n a b a ++ [b] else frG F n a b x) = frG F n a (b + 1) x := by
  unfold frG
  by_cases e : x = a
  · subst e
    rw [frL_next]
    unfold frT
    simp [h]
  · simp [e]

theorem frG_le (F : FV) {n a b x : Nat} (hb : b ≤ n) : (frG F n a b x).length ≤ n := by
  unfold frG
  split
  · exact frL_le F n x
  · split
    · have := frL_le F b x; omega
    · simp

end Go.Proofs.Ytahjippocejphaa.Dm
