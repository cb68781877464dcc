/-
  What is over what, by the document: plnref3.Doms.
-/
import Derived.Test.YtnodofbpogcheaaJ4
import Derived.BigRegion
namespace Go.Proofs.Ytnodofbpogcheaa.Flo
open Go.RowKit View Rd Copy Num Ty Srt

set_option linter.unusedVariables false

/-- Block a is over block b. -/
def DomR (F : FV) (a b : Nat) : Prop := Way (su F) 0 a ∧ Way (su F) 0 b ∧ (a = b ∨ ¬ (a ≠ 0 ∧ Way (suL F a) 0 b))

/-- A square of answers: its rows below a are there. -/
structure Sq (w : World) (O lo n a : Nat) (R : Nat → Nat) (D : Nat → Nat → Bool) : Prop where
  row : w.rowIs O 56 n (fun i => if i < a then .slice (some ⟨R i, 0, none⟩) n n else .slice none 0 0)
  rows : ∀ i, i < a → w.rowIs (R i) 4 n (fun b => .bool (D i b))
  ge : ∀ i, i < a → lo ≤ R i
  inj : ∀ i j, i < a → j < a → R i = R j → i = j

theorem Sq.keep {w w' : World} {O lo n a : Nat} {R : Nat → Nat} {D : Nat → Nat → Bool} (h : Sq w O lo n a R D) (hb : ∀ b, (b = O ∨ ∃ i, i < a ∧ b = R i) → w'.heap[b]? = w.heap[b]?) : Sq w' O lo n a R D :=
  ⟨h.row.of_block (hb O (.inl rfl)), fun i hi => (h.rows i hi).of_block (hb _ (.inr ⟨i, hi, rfl⟩)), h.ge, h.inj⟩

theorem Sq.on {w w' : World} {O lo n a : Nat} {R : Nat → Nat} {D : Nat → Nat → Bool} (h : Sq w O lo n a R D) (hb : Below w.heap.size w w') : Sq w' O lo n a R D :=
  h.keep (fun b hbb => by
    rcases hbb with rfl | ⟨i, hi, rfl⟩
    · exact hb.block _ h.row.lt
    · exact hb.block _ (h.rows i hi).lt)

theorem Sq.off {w : World} {O lo n a : Nat} {R : Nat → Nat} {D : Nat → Nat → Bool} (h : Sq w O lo n a R D) {i : Nat} (hi : i < a) : R i ≠ O := by
  intro eq
  have q1 := h.rows i hi
  have q2 := h.row
  rw [eq] at q1
  obtain ⟨c1, e1, _⟩ := q1
  obtain ⟨c2, e2, _⟩ := q2
  rw [e1] at e2
  simp at e2

/-- One row more is laid. -/
theorem Sq.more {w : World} {O lo n a : Nat} {R : Nat → Nat} {D : Nat → Nat → Bool} (h : Sq w O lo n a R D) (ha : a < n) (hlo : lo ≤ w.heap.size) (hO : O < w.heap.size) :
    Sq ((w.alloc (.cells (madeCells #[.bool false] n) 4)).setCell ⟨O, a, none⟩ (.slice (some ⟨w.heap.size, 0, none⟩) n n)) O lo n (a + 1) (fun i => if i = a then w.heap.size else R i) (fun i => if i = a then fun _ => false else D i) := by
  have h1 := h.on (new (same w) (.cells (madeCells #[.bool false] n) 4))
  refine ⟨(h1.row.set a _).congr (fun i hi => ?_), fun i hi => ?_, fun i hi => ?_, fun i j hi hj e => ?_⟩
  · by_cases e : i = a
    · subst e; simp
    · rw [if_neg e]
      by_cases e2 : i < a
      · rw [if_pos e2, if_pos (by omega)]; simp [e]
      · rw [if_neg e2, if_neg (by omega)]
  · by_cases e : i = a
    · subst e
      simp only [if_true]
      exact (World.rowIs_made w (.bool false) n 4).of_block (Below.heap_setCell _ _ _ _ (by show w.heap.size ≠ O; omega))
    · simp only [if_neg e]
      have hi' : i < a := by omega
      exact (h1.rows i hi').of_block (Below.heap_setCell _ _ _ _ (h.off hi'))
  · by_cases e : i = a
    · simp only [e, if_true]; exact hlo
    · simp only [if_neg e]; exact h.ge i (by omega)
  · by_cases e1 : i = a
    · by_cases e2 : j = a
      · rw [e1, e2]
      · simp only [e1, if_true, if_neg e2] at e
        have := (h.rows j (by omega)).lt
        omega
    · by_cases e2 : j = a
      · simp only [e2, if_true, if_neg e1] at e
        have := (h.rows i (by omega)).lt
        omega
      · simp only [if_neg e1, if_neg e2] at e
        exact h.inj i j (by omega) (by omega) e

theorem Sq.set {w : World} {O lo n a : Nat} {R : Nat → Nat} {D : Nat → Nat → Bool} (h : Sq w O lo n a R D) {i b : Nat} (hi : i < a) (v : Bool) :
    Sq (w.setCell ⟨R i, b, none⟩ (.bool v)) O lo n a R (fun j => if j = i then fun c => if c = b then v else D i c else D j) := by
  refine ⟨h.row.of_block (Below.heap_setCell _ _ _ _ (fun e => h.off hi e.symm)), fun j hj => ?_, h.ge, h.inj⟩
  by_cases e : j = i
  · subst e
    simp only [if_true]
    exact ((h.rows j hj).set b (.bool v)).congr (fun c _ => by split <;> rfl)
  · simp only [if_neg e]
    exact (h.rows j hj).of_block (Below.heap_setCell _ _ _ _ (fun eq => e (h.inj j i hj hi eq)))

def DomsIs (F : FV) (w : World) (e : Ending) (w' : World) : Prop :=
  ∃ (O : Nat) (R : Nat → Nat) (D : Nat → Nat → Bool), e = .returned (.slice (some ⟨O, 0, none⟩) F.blk.n F.blk.n) ∧ Sq w' O w.heap.size F.blk.n F.blk.n R D ∧ (∀ a, a < F.blk.n → ∀ b, b < F.blk.n → (D a b = true ↔ DomR F a b)) ∧ Below w.heap.size w w'

end Go.Proofs.Ytnodofbpogcheaa.Flo
