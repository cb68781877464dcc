/-
  ir.Neat: the function that it hands back.
-/
import Derived.Test.YtolipafcoolpgaaGreatJ1
namespace Go.Proofs.YtolipafcoolpgaaGreat.Own
open Go.RowKit View Rd Copy Srt Num

set_option linter.unusedVariables false

structure Num2 (F G : FV) : Prop where
 par : G.par.n = F.par.n
 blk : G.blk.n = F.blk.n
 B : ∀ j, j < F.blk.n → (G.B j).n = (F.B j).n
 ty : ∀ j, j < F.blk.n → ∀ k, k < (F.B j).n → (G.I j k).ty = (F.I j k).ty
 to : ∀ j, j < F.blk.n → ∀ k, k < (F.B j).n → (G.I j k).to = (F.I j k).to

structure Neats (F G : FV) : Prop where
 name : G.name = F.name
 out : G.out = F.out
 res : G.res = F.res
 par : G.par.n = F.par.n
 P : ∀ i, i < F.par.n → G.P i = F.P i
 blk : G.blk.n = F.blk.n
 B : ∀ j, j < F.blk.n → (G.B j).n = (F.B j).n
 op : ∀ j, j < F.blk.n → ∀ k, k < (F.B j).n → (G.I j k).op = (F.I j k).op
 ty : ∀ j, j < F.blk.n → ∀ k, k < (F.B j).n → (G.I j k).ty = (F.I j k).ty
 sym : ∀ j, j < F.blk.n → ∀ k, k < (F.B j).n → (G.I j k).sym = (F.I j k).sym
 num : ∀ j, j < F.blk.n → ∀ k, k < (F.B j).n → (G.I j k).num = (F.I j k).num
 to : ∀ j, j < F.blk.n → ∀ k, k < (F.B j).n → (G.I j k).to = newTo F j k
 an : ∀ j, j < F.blk.n → ∀ k, k < (F.B j).n → (G.I j k).args.n = (F.I j k).args.n
 jn : ∀ j, j < F.blk.n → ∀ k, k < (F.B j).n → (G.I j k).into.n = (F.I j k).into.n
 rows : ∀ j, j < F.blk.n → ∀ k, k < (F.B j).n → ∃ a', Put (F.I j k) (F.A j k) (F.J j k) a' (G.J j k) ∧ ∀ i, i < (F.I j k).args.n → G.A j k i = nm F (a' i)

theorem Upto.all {F : FV} {A J : Nat → Nat → Nat → Int} (h : Upto F F.blk.n 0 A J) : ∀ j, j < F.blk.n → ∀ k, k < (F.B j).n → Put (F.I j k) (F.A j k) (F.J j k) (A j k) (J j k) := fun j hj k hk => by
 have := h j hj k hk
 rw [if_pos (by omega)] at this; exact this

theorem Ren.all {F : FV} {I : Nat → Nat → IV} {A : Nat → Nat → Nat → Int} (h : Ren F F.blk.n 0 I A) : ∀ j, j < F.blk.n → ∀ k, k < (F.B j).n → I j k = { F.I j k with to := newTo F j k } ∧ A j k = fun i => nm F (F.A j k i) := fun j hj k hk => by
 have := h j hj k hk
 rw [if_pos (by omega)] at this; exact this

theorem Own.less {base base' : Nat} {w : World} {F : FV} {at_ : Id → Nat} (h : Own base w F at_) (hb : base' ≤ base) : Own base' w F at_ :=
 ⟨h.inn, h.adr, fun x hx h0 => Nat.le_trans hb (h.ge x hx h0), h.lt, h.fz, h.sep, h.par, h.blk, h.pm.wide hb (Nat.le_refl _), h.bm.wide hb (Nat.le_refl _)⟩

structure Twins (F T : FV) : Prop where
 name : T.name = F.name
 out : T.out = F.out
 res : T.res = F.res
 par : T.par.n = F.par.n
 P : T.P = F.P
 blk : T.blk.n = F.blk.n
 B : ∀ j, j < F.blk.n → (T.B j).n = (F.B j).n
 op : ∀ j, j < F.blk.n → ∀ k, k < (F.B j).n → (T.I j k).op = (F.I j k).op
 ty : ∀ j, j < F.blk.n → ∀ k, k < (F.B j).n → (T.I j k).ty = (F.I j k).ty
 to : ∀ j, j < F.blk.n → ∀ k, k < (F.B j).n → (T.I j k).to = (F.I j k).to
 sym : ∀ j, j < F.blk.n → ∀ k, k < (F.B j).n → (T.I j k).sym = (F.I j k).sym
 num : ∀ j, j < F.blk.n → ∀ k, k < (F.B j).n → (T.I j k).num = (F.I j k).num
 an : ∀ j, j < F.blk.n → ∀ k, k < (F.B j).n → (T.I j k).args.n = (F.I j k).args.n
 jn : ∀ j, j < F.blk.n → ∀ k, k < (F.B j).n → (T.I j k).into.n = (F.I j k).into.n
 A : T.A = F.A
 J : T.J = F.J

end Go.Proofs.YtolipafcoolpgaaGreat.Own
