/-
  Alike, both ways.
-/
import Derived.Test.YtclioagemjpnoaaSameM
namespace Go.Proofs.Ytclioagemjpnoaa.Trn
open Go.RowKit View Rd Copy Srt Go.Proofs.Ytclioagemjpnoaa.Mod

set_option linter.unusedVariables false

theorem eqs_symm {s t : Sl} {f g : Nat → Int} (h : Eqs s t f g) : Eqs t s g f := ⟨h.1.symm, fun i hi => (h.2 i (by rw [h.1]; exact hi)).symm⟩
theorem eqs_trans {s t u : Sl} {f g k : Nat → Int} (h : Eqs s t f g) (h' : Eqs t u g k) : Eqs s u f k := ⟨h.1.trans h'.1, fun i hi => (h.2 i hi).trans (h'.2 i (by rw [← h.1]; exact hi))⟩
theorem eqF_symm {F G : FV} (h : EqF F G) : EqF G F := by
  obtain ⟨h1, h2, h3, h4, h5, h6⟩ := h
  refine ⟨h1.symm, h2.symm, h3.symm, eqs_symm h4, h5.symm, fun j hj => ?_⟩
  obtain ⟨q1, q2⟩ := h6 j (by rw [h5]; exact hj)
  refine ⟨q1.symm, fun k hk => ?_⟩
  obtain ⟨a1, a2, a3, a4, a5, a6, a7⟩ := q2 k (by rw [q1]; exact hk)
  exact ⟨a1.symm, a2.symm, a3.symm, a4.symm, a5.symm, eqs_symm a6, eqs_symm a7⟩
theorem eqF_trans {F G H : FV} (h : EqF F G) (h' : EqF G H) : EqF F H := by
  obtain ⟨h1, h2, h3, h4, h5, h6⟩ := h
  obtain ⟨k1, k2, k3, k4, k5, k6⟩ := h'
  refine ⟨h1.trans k1, h2.trans k2, h3.trans k3, eqs_trans h4 k4, h5.trans k5, fun j hj => ?_⟩
  obtain ⟨q1, q2⟩ := h6 j hj
  obtain ⟨r1, r2⟩ := k6 j (by rw [← h5]; exact hj)
  refine ⟨q1.trans r1, fun t ht => ?_⟩
  obtain ⟨a1, a2, a3, a4, a5, a6, a7⟩ := q2 t ht
  obtain ⟨b1, b2, b3, b4, b5, b6, b7⟩ := r2 t (by rw [← q1]; exact ht)
  exact ⟨a1.trans b1, a2.trans b2, a3.trans b3, a4.trans b4, a5.trans b5, eqs_trans a6 b6, eqs_trans a7 b7⟩
theorem eqM_symm {M N : MV} (h : EqM M N) : EqM N M :=
  ⟨⟨h.ext.1.symm, fun i hi => by have := h.ext.2 i (by rw [h.ext.1]; exact hi); exact ⟨this.1.symm, this.2.1.symm, eqs_symm this.2.2⟩⟩, ⟨h.glo.1.symm, fun i hi => by have := h.glo.2 i (by rw [h.glo.1]; exact hi); exact ⟨this.1.symm, eqs_symm this.2⟩⟩, ⟨h.tab.1.symm, fun i hi => by have := h.tab.2 i (by rw [h.tab.1]; exact hi); exact ⟨this.1.symm, eqs_symm this.2⟩⟩, ⟨h.fns.1.symm, fun i hi => eqF_symm (h.fns.2 i (by rw [h.fns.1]; exact hi))⟩⟩
theorem eqM_trans {M N O : MV} (h : EqM M N) (k : EqM N O) : EqM M O :=
  ⟨⟨h.ext.1.trans k.ext.1, fun i hi => by have a := h.ext.2 i hi; have b := k.ext.2 i (by rw [← h.ext.1]; exact hi); exact ⟨a.1.trans b.1, a.2.1.trans b.2.1, eqs_trans a.2.2 b.2.2⟩⟩, ⟨h.glo.1.trans k.glo.1, fun i hi => by have a := h.glo.2 i hi; have b := k.glo.2 i (by rw [← h.glo.1]; exact hi); exact ⟨a.1.trans b.1, eqs_trans a.2 b.2⟩⟩, ⟨h.tab.1.trans k.tab.1, fun i hi => by have a := h.tab.2 i hi; have b := k.tab.2 i (by rw [← h.tab.1]; exact hi); exact ⟨a.1.trans b.1, eqs_trans a.2 b.2⟩⟩, ⟨h.fns.1.trans k.fns.1, fun i hi => eqF_trans (h.fns.2 i hi) (k.fns.2 i (by rw [← h.fns.1]; exact hi))⟩⟩

end Go.Proofs.Ytclioagemjpnoaa.Trn
