/-
  Same, SameIr, SameIr2, SameM: laid together.
-/
import Derived.Test.YtolipafcoolpgaaGreatJ0
import Derived.Deep.RegionWith
import Derived.Test.YtolipafcoolpgaaGreatSmall
/-
  Whether two functions are alike: the contract of plnref3.SameFunc.
-/
namespace Go.Proofs.YtolipafcoolpgaaGreat.Rd
open Go.RowKit View

set_option linter.unusedVariables false

def EqF (F G : FV) : Prop :=
 F.name.toList = G.name.toList ∧ F.out = G.out ∧ F.res = G.res ∧ Eqs F.par G.par F.P G.P ∧ F.blk.n = G.blk.n ∧
 ∀ j, j < F.blk.n → (F.B j).n = (G.B j).n ∧ ∀ k, k < (F.B j).n → EqI (F.I j k) (G.I j k) (F.A j k) (F.J j k) (G.A j k) (G.J j k)

end Go.Proofs.YtolipafcoolpgaaGreat.Rd

/-
  Whether lists, instructions, blocks and functions are alike, by the program: slices.Equal, slices.EqualFunc, ir.sameIns.
-/
namespace Go.Proofs.YtolipafcoolpgaaGreat.Mod
open Go.RowKit View Rd Num Opn Copy

set_option linter.unusedVariables false

set_option maxHeartbeats 1000000 in
theorem equal33 (s t : Sl) (f g : Nat → Int) (w : World) (hs : Ints w s f) (ht : Ints w t g) (hsm : s.n ≤ 1000) :
  Calls Tryz.prog 164 #[.slice s.a s.n s.c, .slice t.a t.n t.c] w fun e w' => ∃ r : Bool, e = .returned (.bool r) ∧ (r = true ↔ Eqs s t f g) ∧ ∃ q, w' = w.drewN q := by
 by_cases hn : s.n = t.n
 ·have hn' : ((s.n : Int) != (t.n : Int)) = false := by simp [hn]
  have HN : Hid (s.n = t.n) := hn
  clear hn
  go_enter Tryz.func164, Tryz.ntmps164
  go_wp2
  go_loopw [13] (fun i wr => ∃ k : Nat, k ≤ s.n ∧ i = .int .i64 k ∧ (∀ i, i < k → f i = g i) ∧ ∃ q, wr = w.drewN q) (fun i _ => s.n - (intOf i).toNat)
  case atStart => exact ⟨0, Nat.zero_le _, rfl, fun i hi => by omega, 0, rfl⟩
  case round =>
   obtain ⟨k, hk, rfl, hall, q, rfl⟩ := hrel
   have HA : Hid (∀ i, i < k → f i = g i) := hall
   clear hall
   by_cases hlt : k < s.n
   ·obtain ⟨b, o, hix, hc⟩ := hs.at hlt
    obtain ⟨b', o', hix', hc'⟩ := ht.at (k := k) (by have := HN.out; omega)
    go_wp2
    go_region
    by_cases hfg : f k = g k
    ·have hfg' : (f k != g k) = false := by simp [hfg]
     have HE := hid hfg
     clear hfg
     go_wp2
     go_round
     case rel => exact ⟨k + 1, by omega, by go_num, upto HA.out HE.out, q + 1, rfl⟩
     case measure => simp [intOf]; omega
    ·have hfg' : (f k != g k) = true := by simp [hfg]
     go_wp2
     go_ret
     exact ⟨false, rfl, by simp only [Bool.false_eq_true, false_iff]; intro h; exact hfg (h.2 k hlt), q + 1, rfl⟩
   ·obtain rfl : k = s.n := by omega
    go_wp2
    go_ret
    exact ⟨true, rfl, by simp only [true_iff]; exact ⟨HN.out, HA.out⟩, q, rfl⟩
 ·have hn' : ((s.n : Int) != (t.n : Int)) = true := by simp; omega
  go_enter Tryz.func164, Tryz.ntmps164
  go_wp2
  go_ret
  exact ⟨false, rfl, by simp [Eqs, hn], 0, rfl⟩

def EqE (v u : EV) (f g : Nat → Int) : Prop := v.name.toList = u.name.toList ∧ v.res = u.res ∧ Eqs v.par u.par f g
def EqG (v u : GV) (f g : Nat → Int) : Prop := v.name.toList = u.name.toList ∧ Eqs v.cel u.cel f g

structure EqM (M O : MV) : Prop where
 ext : M.ext.n = O.ext.n ∧ ∀ i, i < M.ext.n → EqE (M.E i) (O.E i) (M.EP i) (O.EP i)
 glo : M.glo.n = O.glo.n ∧ ∀ i, i < M.glo.n → EqG (M.G i) (O.G i) (M.GC i) (O.GC i)
 tab : M.tab.n = O.tab.n ∧ ∀ i, i < M.tab.n → EqG (M.T i) (O.T i) (M.TF i) (O.TF i)
 fns : M.fns.n = O.fns.n ∧ ∀ i, i < M.fns.n → EqF (M.F i) (O.F i)

end Go.Proofs.YtolipafcoolpgaaGreat.Mod
