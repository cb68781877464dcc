/-
  The walk of plnlaw3.IrNeat: it answers true, whatever function lies there.
-/
import Derived.Test.YtahjippocejphaaPure
import Derived.Test.YtahjippocejphaaFirst
import Derived.Test.YtahjippocejphaaLight
import Derived.BigQuiet
import Derived.Deep.QuietTactic
namespace Go.Proofs.Ytahjippocejphaa.NeatLaw
open Go.RowKit View Rd Copy Srt Num Own Ty First

set_option linter.unusedVariables false

theorem cnt_mono {f g : Nat → Nat} : ∀ {k : Nat}, (∀ t, t < k → f t ≤ g t) → cnt f k ≤ cnt g k
  | 0, _ => Nat.le_refl _
  | k + 1, h => by
    have h1 := cnt_mono (k := k) (fun t ht => h t (by omega))
    have h2 := h k (by omega)
    rw [cnt, cnt]; omega

theorem total_le {F : FV} (hl : Light F) : F.par.n + cnt (fun j => giv (F.I j) (F.B j).n) F.blk.n ≤ 98 := by
  have h1 := cnt_mono (f := fun j => giv (F.I j) (F.B j).n) (g := fun j => (F.B j).n) (k := F.blk.n) (fun t ht => giv_le _ _)
  have := hl.all
  have := hl.par
  omega

theorem same_true (F G : FV) (w : World) (hF : In w F) (hG : In w G) (hl : Light F) (h : EqF F G) : Calls Try.prog 15 #[F.val, G.val] w fun e w' => e = .returned (.bool true) ∧ Below w.heap.size w w' := by
  refine (sameFunc_ref F G w hF hG hl).mono ?_
  rintro e w' ⟨r, rfl, hr, hb⟩
  rw [hr.2 h]; exact ⟨rfl, hb⟩

theorem ints_true (s t : Sl) (f g : Nat → Int) (w : World) (hs : Ints w s f) (ht : Ints w t g) (hsm : s.n ≤ 1000) (h : Eqs s t f g) : Calls Try.prog 27 #[.slice s.a s.n s.c, .slice t.a t.n t.c] w fun e w' => e = .returned (.bool true) ∧ Below w.heap.size w w' := by
  refine (ints_any s t f g w hs ht hsm).mono ?_
  rintro e w' ⟨r, rfl, hr, q, rfl⟩
  rw [hr.2 h]; exact ⟨rfl, below_drewN' w q⟩

end Go.Proofs.Ytahjippocejphaa.NeatLaw
