/-
  A module's copy is the module: what ir.Copy gives, as a module.
-/
import Derived.Test.YtclioagemjpnoaaCopyM4
namespace Go.Proofs.Ytclioagemjpnoaa.CpM
open Go.RowKit View Rd Copy Srt Go.Proofs.Ytclioagemjpnoaa.Own Go.Proofs.Ytclioagemjpnoaa.Mod

set_option linter.unusedVariables false

theorem row_of {α : Type} {z : Nat} {p : World → Nat → Nat → α → Prop} {w : World} {G n : Nat} {f : Nat → α} (hn : n ≤ 1000) (h : ∀ i, i < n → p w G (i * z) (f i)) : Row z p w ⟨some ⟨G, 0, none⟩, n, n⟩ f :=
  ⟨Nat.le_refl _, by show n ≤ _; omega, fun h => by simp at h, fun _ => ⟨G, 0, rfl, fun i hi => by rw [Nat.zero_add]; exact h i hi⟩⟩

theorem eqF_twins {F T : FV} (h : Twins F T) : EqF T F :=
  ⟨by rw [h.name], h.out, h.res, ⟨h.par, fun i _ => by rw [h.P]⟩, h.blk, fun j hj => ⟨h.B j (by rw [← h.blk]; exact hj), fun k hk => by
    have hj' : j < F.blk.n := by rw [← h.blk]; exact hj
    have hk' : k < (F.B j).n := by rw [← h.B j hj']; exact hk
    exact ⟨h.op j hj' k hk', h.ty j hj' k hk', h.to j hj' k hk', h.sym j hj' k hk', h.num j hj' k hk', ⟨h.an j hj' k hk', fun i _ => by rw [h.A]⟩, ⟨h.jn j hj' k hk', fun i _ => by rw [h.J]⟩⟩⟩⟩

theorem cnt_same {f g : Nat → Nat} : ∀ {n : Nat}, (∀ i, i < n → f i = g i) → cnt f n = cnt g n
  | 0, _ => rfl
  | n + 1, h => by rw [cnt, cnt, cnt_same (fun i hi => h i (by omega)), h n (by omega)]

/-- A copy, as a module that is alike and lies there. -/
def Copied (M : MV) (w : World) (e : Ending) (w' : World) : Prop := ∃ N : MV, e = .returned N.val ∧ InM w' N ∧ EqM N M ∧ SmallM N ∧ Below w.heap.size w w'

theorem copied_of {M : MV} {w w' : World} {e : Ending} (hs : SmallM M) (h : CopyOfM M w e w') : Copied M w e w' := by
  obtain ⟨N0, rfl, ⟨G1, e1, _, t1, E1⟩, ⟨G2, e2, _, t2, E2⟩, ⟨G3, e3, _, t3, E3⟩, ⟨G4, e4, _, t4, E4⟩, hb⟩ := h
  have m1 := hs.ext
  have m2 := hs.glo
  have m3 := hs.tab
  have m4 := hs.fns
  refine ⟨⟨⟨some ⟨G1, 0, none⟩, M.ext.n, M.ext.n⟩, ⟨some ⟨G2, 0, none⟩, M.glo.n, M.glo.n⟩, ⟨some ⟨G3, 0, none⟩, M.tab.n, M.tab.n⟩, ⟨some ⟨G4, 0, none⟩, M.fns.n, M.fns.n⟩, fun i => ⟨(M.E i).name, t1 i, (M.E i).res⟩, M.EP, fun i => ⟨(M.G i).name, t2 i⟩, M.GC, fun i => ⟨(M.T i).name, t3 i⟩, M.TF, t4⟩, ?_, ⟨?_, ?_, ?_, ?_, ?_, ?_, ?_, ?_⟩, ⟨?_, ?_, ?_, ?_⟩, ⟨m1, m2, m3, m4, ?_, ?_, ?_, ?_, ?_⟩, hb⟩
  · show Ending.returned (MV.val N0) = _
    unfold MV.val
    rw [e1, e2, e3, e4]
  · exact row_of (by omega) fun i hi => ⟨E1.cell (fun _ _ => rfl) hi (r := 0) (by decide) rfl, E1.cell (fun _ _ => rfl) hi (r := 1) (by decide) rfl, E1.cell (fun _ _ => rfl) hi (r := 2) (by decide) rfl⟩
  · exact fun i hi => (E1.el i hi).2.1
  · exact row_of (by omega) fun i hi => ⟨E2.cell (fun _ _ => rfl) hi (r := 0) (by decide) rfl, E2.cell (fun _ _ => rfl) hi (r := 1) (by decide) rfl⟩
  · exact fun i hi => (E2.el i hi).2.1
  · exact row_of (by omega) fun i hi => ⟨E3.cell (fun _ _ => rfl) hi (r := 0) (by decide) rfl, E3.cell (fun _ _ => rfl) hi (r := 1) (by decide) rfl⟩
  · exact fun i hi => (E3.el i hi).2.1
  · exact row_of (by omega) fun i hi => ⟨E4.cell (fun _ _ => rfl) hi (r := 0) (by decide) rfl, E4.cell (fun _ _ => rfl) hi (r := 1) (by decide) rfl, E4.cell (fun _ _ => rfl) hi (r := 2) (by decide) rfl, E4.cell (fun _ _ => rfl) hi (r := 3) (by decide) rfl, E4.cell (fun _ _ => rfl) hi (r := 4) (by decide) rfl⟩
  · exact fun i hi => (by obtain ⟨_, h1, _, _⟩ := E4.el i hi; exact h1.inn)
  · exact ⟨rfl, fun i hi => ⟨rfl, rfl, (E1.el i hi).1, fun _ _ => rfl⟩⟩
  · exact ⟨rfl, fun i hi => ⟨rfl, (E2.el i hi).1, fun _ _ => rfl⟩⟩
  · exact ⟨rfl, fun i hi => ⟨rfl, (E3.el i hi).1, fun _ _ => rfl⟩⟩
  · exact ⟨rfl, fun i hi => by obtain ⟨_, _, _, h3⟩ := E4.el i hi; exact eqF_twins h3⟩
  · exact fun i hi => ⟨(hs.extI i hi).1, by have := (hs.extI i hi).2; have : (t1 i).n = (M.E i).par.n := (E1.el i hi).1; show (t1 i).n ≤ 10; omega⟩
  · exact fun i hi => ⟨(hs.gloI i hi).1, by have := (hs.gloI i hi).2; have : (t2 i).n = (M.G i).cel.n := (E2.el i hi).1; show (t2 i).n ≤ 20; omega⟩
  · exact fun i hi => ⟨(hs.tabI i hi).1, by have := (hs.tabI i hi).2; have : (t3 i).n = (M.T i).cel.n := (E3.el i hi).1; show (t3 i).n ≤ 16; omega⟩
  · exact fun i hi => (by obtain ⟨_, _, h2, _⟩ := E4.el i hi; exact h2)
  · have e : cnt (fun k => fsize (t4 k)) M.fns.n = cnt (fun k => fsize (M.F k)) M.fns.n := cnt_same fun i hi => by
      obtain ⟨_, _, _, h3⟩ := E4.el i hi
      unfold fsize
      rw [h3.blk]
      exact cnt_same fun j hj => h3.B j hj
    show cnt (fun k => fsize (t4 k)) M.fns.n ≤ 160
    rw [e]; exact hs.all

end Go.Proofs.Ytclioagemjpnoaa.CpM
