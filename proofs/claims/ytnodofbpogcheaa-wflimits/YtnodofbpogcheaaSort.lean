/-
  Sorting a Phi's entries: cmp.Compare, insertion sort, the stable sort at twenty entries or fewer.
-/
import Derived.Test.YtnodofbpogcheaaJ0
import Derived.Deep.RegionHeld3
import Derived.BigRegion
import Derived.Deep.QuietTactic
import Derived.BigQuiet
namespace Go.Proofs.Ytnodofbpogcheaa.Srt
open Go.RowKit View Rd

set_option linter.unusedVariables false

def cmp3 (x y : Int) : Int := if x < y then -1 else if y < x then 1 else 0

/-- n entries, two cells each, at the head of block E. -/
structure Ents (w : World) (E n : Nat) (p q : Nat → Int) : Prop where
  c0 : ∀ i, i < n → w.cell? ⟨E, i * 2, none⟩ = some (.int .i64 (p i))
  c1 : ∀ i, i < n → w.cell? ⟨E, i * 2 + 1, none⟩ = some (.int .i64 (q i))
  fz : ∀ i, w.frozen? ⟨E, i, none⟩ = false

/-- The first ones of those whose key is c, in order. -/
def sel (c : Int) (p q : Nat → Int) : Nat → List Int
  | 0 => []
  | n + 1 => sel c p q n ++ if q n = c then [p n] else []

def Rises (q : Nat → Int) (n : Nat) : Prop := ∀ x y, x < y → y < n → q x ≤ q y

def swp (f : Nat → Int) (j : Nat) : Nat → Int := fun i => if i = j + 1 then f j else if i = j then f (j + 1) else f i

theorem Ents.on {w w' : World} {E n : Nat} {p q : Nat → Int} (hE : E < w.heap.size) (hb : Below w.heap.size w w') (h : Ents w E n p q) : Ents w' E n p q :=
  ⟨fun i hi => cell_on hb (h.c0 i hi), fun i hi => cell_on hb (h.c1 i hi), fun i => by rw [hb.frozen (by exact hE)]; exact h.fz i⟩

/-- Where insertion stands: all but the one at j rise, and what lies behind j is greater. -/
structure Ins1 (q : Nat → Int) (i j : Nat) : Prop where
  rest : ∀ x y, x < y → y ≤ i → x ≠ j → y ≠ j → q x ≤ q y
  beyond : ∀ y, j < y → y ≤ i → q j ≤ q y

theorem Ins1.step {q : Nat → Int} {i j : Nat} (h : Ins1 q i (j + 1)) (hj : j + 1 ≤ i) (hlt : q (j + 1) < q j) : Ins1 (swp q j) i j := by
  constructor
  · intro x y hxy hy hx hy'
    by_cases e1 : x = j + 1
    · subst e1
      rw [show swp q j (j + 1) = q j by simp [swp], show swp q j y = q y by simp [swp, show y ≠ j + 1 by omega, show y ≠ j by omega]]
      exact h.rest j y (by omega) hy (by omega) (by omega)
    · rw [show swp q j x = q x by simp [swp, e1, hx]]
      by_cases e2 : y = j + 1
      · subst e2
        rw [show swp q j (j + 1) = q j by simp [swp]]
        exact h.rest x j (by omega) (by omega) e1 (by omega)
      · rw [show swp q j y = q y by simp [swp, e2, hy']]
        exact h.rest x y hxy hy e1 e2
  · intro y hy hyi
    simp only [swp, if_true, show j ≠ j + 1 by omega, if_false]
    split
    · omega
    · split
      · omega
      · exact h.beyond y (by omega) hyi

theorem Ins1.done {q : Nat → Int} {i j : Nat} (h : Ins1 q i j) (hj : j ≤ i) (he : j = 0 ∨ ∃ k, j = k + 1 ∧ q k ≤ q j) : Rises q (i + 1) := by
  intro x y hxy hy
  by_cases e1 : x = j
  · subst e1; exact h.beyond y hxy (by omega)
  · by_cases e2 : y = j
    · subst e2
      rcases he with rfl | ⟨k, rfl, hk⟩
      · omega
      · by_cases e3 : x = k
        · subst e3; exact hk
        · exact Int.le_trans (h.rest x k (by omega) (by omega) e1 (by omega)) hk
    · exact h.rest x y hxy (by omega) e1 e2

theorem Ins1.start {q : Nat → Int} {i : Nat} (h : Rises q i) : Ins1 q i i :=
  ⟨fun x y hxy hy hx hy' => h x y hxy (by omega), fun y hy hyi => by omega⟩

/-- insertion sort's state: what is in block E, behind what was done. -/
structure St (w wr : World) (E n : Nat) (p q p' q' : Nat → Int) : Prop where
  ents : Ents wr E n p' q'
  sels : ∀ c, sel c p' q' n = sel c p q n
  grown : w.grownBy wr (some E)

end Go.Proofs.Ytnodofbpogcheaa.Srt
