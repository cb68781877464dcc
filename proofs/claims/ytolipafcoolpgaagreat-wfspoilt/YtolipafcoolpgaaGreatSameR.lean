/-
  Whether modules are alike, by the document's own words: plnref3.Same.
-/
import Derived.Test.YtolipafcoolpgaaGreatJ4
import Derived.Deep.RegionHeld3
import Derived.BigQuiet
import Derived.Deep.QuietTactic
namespace Go.Proofs.YtolipafcoolpgaaGreat.Mod
open Go.RowKit View Rd Num Opn Copy

set_option linter.unusedVariables false

theorem ints_yes (s t : Sl) (f g : Nat → Int) (w : World) (hs : Ints w s f) (ht : Ints w t g) (hsm : s.n ≤ 1000) (h : Eqs s t f g) : Calls Tryz.prog 50 #[.slice s.a s.n s.c, .slice t.a t.n t.c] w fun e w' => e = .returned (.bool true) ∧ ∃ q, w' = w.drewN q := by
 refine (ints_any s t f g w hs ht hsm).mono ?_
 rintro e w' ⟨r, rfl, hr, hq⟩
 rw [hr.2 h]; exact ⟨rfl, hq⟩

theorem ints_no (s t : Sl) (f g : Nat → Int) (w : World) (hs : Ints w s f) (ht : Ints w t g) (hsm : s.n ≤ 1000) (h : ¬ Eqs s t f g) : Calls Tryz.prog 50 #[.slice s.a s.n s.c, .slice t.a t.n t.c] w fun e w' => e = .returned (.bool false) ∧ ∃ q, w' = w.drewN q := by
 refine (ints_any s t f g w hs ht hsm).mono ?_
 rintro e w' ⟨r, rfl, hr, hq⟩
 cases r
 ·exact ⟨rfl, hq⟩
 ·exact absurd (hr.1 rfl) h

end Go.Proofs.YtolipafcoolpgaaGreat.Mod
