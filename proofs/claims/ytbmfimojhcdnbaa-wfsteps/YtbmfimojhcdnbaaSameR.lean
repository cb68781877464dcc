/-
  Whether modules are alike, by the document's own words: plnref3.Same.
-/
import Derived.Test.YtbmfimojhcdnbaaSameM
import Derived.Deep.RegionHeld3
import Derived.BigQuiet
import Derived.Deep.QuietTactic
namespace Go.Proofs.Ytbmfimojhcdnbaa.Mod
open Go.RowKit View Rd Num Opn Copy

set_option linter.unusedVariables false

theorem ints_ans (s t : Sl) (f g : Nat → Int) (w : World) (hs : Ints w s f) (ht : Ints w t g) (hsm : s.n ≤ 1000) : Calls Try.prog 21 #[.slice s.a s.n s.c, .slice t.a t.n t.c] w fun e w' => Ans (fun r => r = true ↔ Eqs s t f g) w e w' := by
  refine (ints_any s t f g w hs ht hsm).mono ?_
  rintro e w' ⟨r, rfl, hr, q, rfl⟩
  exact ⟨r, rfl, hr, below_drewN' w q⟩

theorem ints_yes (s t : Sl) (f g : Nat → Int) (w : World) (hs : Ints w s f) (ht : Ints w t g) (hsm : s.n ≤ 1000) (h : Eqs s t f g) : Calls Try.prog 21 #[.slice s.a s.n s.c, .slice t.a t.n t.c] w fun e w' => e = .returned (.bool true) ∧ ∃ q, w' = w.drewN q := by
  refine (ints_any s t f g w hs ht hsm).mono ?_
  rintro e w' ⟨r, rfl, hr, hq⟩
  rw [hr.2 h]; exact ⟨rfl, hq⟩

theorem ints_no (s t : Sl) (f g : Nat → Int) (w : World) (hs : Ints w s f) (ht : Ints w t g) (hsm : s.n ≤ 1000) (h : ¬ Eqs s t f g) : Calls Try.prog 21 #[.slice s.a s.n s.c, .slice t.a t.n t.c] w fun e w' => e = .returned (.bool false) ∧ ∃ q, w' = w.drewN q := by
  refine (ints_any s t f g w hs ht hsm).mono ?_
  rintro e w' ⟨r, rfl, hr, hq⟩
  cases r
  · exact ⟨rfl, hq⟩
  · exact absurd (hr.1 rfl) h

theorem same_ans (F G : FV) (w : World) (hF : In w F) (hG : In w G) (hl : Light F) : Calls Try.prog 10 #[F.val, G.val] w fun e w' => Ans (fun r => r = true ↔ EqF F G) w e w' := by
  refine (sameFunc_ref F G w hF hG hl).mono ?_
  rintro e w' ⟨r, rfl, hr, hb⟩
  exact ⟨r, rfl, hr, hb⟩

end Go.Proofs.Ytbmfimojhcdnbaa.Mod
