/-
  What is taken is there, by the document: plnref3.uses.
-/
import Derived.Test.YtnodofbpogcheaaJ2
import Derived.Test.YtnodofbpogcheaaChkW
import Derived.Test.YtnodofbpogcheaaFloDm
namespace Go.Proofs.Ytnodofbpogcheaa.Chk
open Go.RowKit View Rd Num Opn Copy Ty Srt Go.Proofs.Ytnodofbpogcheaa.Mod Go.Proofs.Ytnodofbpogcheaa.Flo

set_option linter.unusedVariables false

/-- Its number is the next one. -/
def ToI (F : FV) (b k : Nat) : Prop := (F.I b k).ty ≠ 0 → (F.I b k).to = idx F b k

/-- The value of block b' that stands at k' is there. -/
def There (F : FV) (b k i b' k' : Nat) : Prop := if (F.I b k).op = 26 then DomR F b' (F.J b k i).toNat else (b' = b ∧ k' < k) ∨ (b' ≠ b ∧ DomR F b' b)

def UseI (F : FV) (b k i : Nat) : Prop := 1 ≤ F.A b k i ∧ F.A b k i ≤ allV F ∧ ∀ b' k', b' < F.blk.n → k' < (F.B b').n → (F.I b' k').ty ≠ 0 → F.A b k i = idx F b' k' → There F b k i b' k'

def UseF (F : FV) : Prop := (∀ b, b < F.blk.n → ∀ k, k < (F.B b).n → ToI F b k) ∧ ∀ b, b < F.blk.n → ∀ k, k < (F.B b).n → ∀ i, i < (F.I b k).args.n → UseI F b k i

theorem idx_row (F : FV) (b : Nat) : ∀ k v, lastOf F b < v → v ≤ lastOf F b + giv (F.I b) k → ∃ k', k' < k ∧ (F.I b k').ty ≠ 0 ∧ idx F b k' = v := by
  intro k
  induction k with
  | zero => intro v h1 h2; simp [giv] at h2; omega
  | succ k ih =>
    intro v h1 h2
    by_cases h : (F.I b k).ty = 0
    · have : giv (F.I b) (k + 1) = giv (F.I b) k := by simp [giv, h]
      obtain ⟨k', a, b', c⟩ := ih v h1 (by omega)
      exact ⟨k', by omega, b', c⟩
    · by_cases e : v = idx F b k
      · exact ⟨k, by omega, h, e.symm⟩
      · have h3 := idx_eq F h
        unfold idx at h3 e
        obtain ⟨k', a, b', c⟩ := ih v h1 (by omega)
        exact ⟨k', by omega, b', c⟩

theorem idx_onto (F : FV) : ∀ b, b ≤ F.blk.n → ∀ v, F.par.n < v → v ≤ lastOf F b → ∃ b' k', b' < b ∧ k' < (F.B b').n ∧ (F.I b' k').ty ≠ 0 ∧ idx F b' k' = v := by
  intro b
  induction b with
  | zero => intro _ v h1 h2; simp [lastOf, cnt] at h2; omega
  | succ b ih =>
    intro hb v h1 h2
    by_cases h : v ≤ lastOf F b
    · obtain ⟨b', k', a, c, d, e⟩ := ih (by omega) v h1 h
      exact ⟨b', k', by omega, c, d, e⟩
    · rw [lastOf_next] at h2
      obtain ⟨k', a, c, d⟩ := idx_row F b _ v (by omega) h2
      exact ⟨b, k', by omega, a, c, d⟩

theorem phi_into {v : IV} (h : formB v = true) (ho : v.op = 26) : v.into.n = v.args.n := by
  unfold formB swB at h
  rw [ho] at h
  simp [mk] at h
  omega

theorem useI_par {F : FV} {b k i : Nat} (h1 : 1 ≤ F.A b k i) (h2 : F.A b k i ≤ F.par.n) : UseI F b k i :=
  ⟨h1, by unfold allV; omega, fun b' k' a c d e => by have := idx_par F d; omega⟩

end Go.Proofs.Ytnodofbpogcheaa.Chk
