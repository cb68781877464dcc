/-
  A module that was copied row by row is the module.
-/
import Derived.Test.YthaedlnefikigaaGrowE
import Derived.Test.YthaedlnefikigaaCopyM5
namespace Go.Proofs.Ythaedlnefikigaa.CpM
open Go.RowKit View Rd Copy Srt Go.Proofs.Ythaedlnefikigaa.Own Go.Proofs.Ythaedlnefikigaa.Mod

set_option linter.unusedVariables false

/-- A module's four rows in a variable. -/
structure MBox (w : World) (b : Nat) (M : MV) : Prop where
  c0 : w.cell? ⟨b, 0, none⟩ = some (.slice M.ext.a M.ext.n M.ext.c)
  c1 : w.cell? ⟨b, 1, none⟩ = some (.slice M.glo.a M.glo.n M.glo.c)
  c2 : w.cell? ⟨b, 2, none⟩ = some (.slice M.tab.a M.tab.n M.tab.c)
  c3 : w.cell? ⟨b, 3, none⟩ = some (.slice M.fns.a M.fns.n M.fns.c)

theorem MBox.at_block {w w' : World} {b : Nat} {M : MV} (h : MBox w b M) (e : w'.heap[b]? = w.heap[b]?) : MBox w' b M :=
  ⟨by rw [World.cell?_of_block (w := w) e]; exact h.c0, by rw [World.cell?_of_block (w := w) e]; exact h.c1, by rw [World.cell?_of_block (w := w) e]; exact h.c2, by rw [World.cell?_of_block (w := w) e]; exact h.c3⟩

theorem MBox.on {w w' : World} {b : Nat} {M : MV} (hb : Below w.heap.size w w') (h : MBox w b M) : MBox w' b M := ⟨cell_on hb h.c0, cell_on hb h.c1, cell_on hb h.c2, cell_on hb h.c3⟩
theorem MBox.alloc (w : World) (M : MV) : MBox (w.alloc (.cells (mcells M) 27)) w.heap.size M := ⟨by simp, by simp, by simp, by simp⟩

abbrev zeroM : MV := ⟨⟨none, 0, 0⟩, ⟨none, 0, 0⟩, ⟨none, 0, 0⟩, ⟨none, 0, 0⟩, fun _ => default, fun _ _ => 0, fun _ => default, fun _ _ => 0, fun _ => default, fun _ _ => 0, fun _ => default⟩

theorem copied_grow {M : MV} {w wf : World} {s1 s2 s3 s4 : Sl} {X1 X2 X3 X4 : Nat} {t1 t2 t3 : Nat → Sl} {t4 : Nat → FV} (hs : SmallM M)
    (g1 : Grow X1 55 3 M.ext.n wf (slv s1) (csE M.E) (ElS (fun i => (M.E i).par.n) M.EP X1) FpS t1) (g2 : Grow X2 58 2 M.glo.n wf (slv s2) (csG M.G) (ElS (fun i => (M.G i).cel.n) M.GC X2) FpS t2)
    (g3 : Grow X3 60 2 M.tab.n wf (slv s3) (csG M.T) (ElS (fun i => (M.T i).cel.n) M.TF X3) FpS t3) (g4 : Grow X4 36 5 M.fns.n wf (slv s4) csF (ElF M.F X4) FpF t4) (hb : Below w.heap.size w wf) :
    Copied M w (.returned (.agg #[.slice s1.a s1.n s1.c, .slice s2.a s2.n s2.c, .slice s3.a s3.n s3.c, .slice s4.a s4.n s4.c])) wf := by
  have m1 := hs.ext
  have m2 := hs.glo
  have m3 := hs.tab
  have m4 := hs.fns
  obtain ⟨n1, r1⟩ := grow_row (p := EAt) (f := fun i => (⟨(M.E i).name, t1 i, (M.E i).res⟩ : EV)) g1 (by omega) (fun _ _ => rfl) (fun g i hi h => ⟨h 0 (by decide), h 1 (by decide), h 2 (by decide)⟩)
  obtain ⟨n2, r2⟩ := grow_row (p := GAt) (f := fun i => (⟨(M.G i).name, t2 i⟩ : GV)) g2 (by omega) (fun _ _ => rfl) (fun g i hi h => ⟨h 0 (by decide), h 1 (by decide)⟩)
  obtain ⟨n3, r3⟩ := grow_row (p := GAt) (f := fun i => (⟨(M.T i).name, t3 i⟩ : GV)) g3 (by omega) (fun _ _ => rfl) (fun g i hi h => ⟨h 0 (by decide), h 1 (by decide)⟩)
  obtain ⟨n4, r4⟩ := grow_row (p := FAt) (f := t4) g4 (by omega) (fun _ _ => rfl) (fun g i hi h => ⟨h 0 (by decide), h 1 (by decide), h 2 (by decide), h 3 (by decide), h 4 (by decide)⟩)
  refine ⟨⟨s1, s2, s3, s4, fun i => ⟨(M.E i).name, t1 i, (M.E i).res⟩, M.EP, fun i => ⟨(M.G i).name, t2 i⟩, M.GC, fun i => ⟨(M.T i).name, t3 i⟩, M.TF, t4⟩, rfl, ⟨r1, fun i hi => (g1.el i (by rw [← n1]; exact hi)).2.1, r2, fun i hi => (g2.el i (by rw [← n2]; exact hi)).2.1, r3, fun i hi => (g3.el i (by rw [← n3]; exact hi)).2.1, r4, fun i hi => ?_⟩, ⟨⟨n1, fun i hi => ?_⟩, ⟨n2, fun i hi => ?_⟩, ⟨n3, fun i hi => ?_⟩, ⟨n4, fun i hi => ?_⟩⟩, ⟨?_, ?_, ?_, ?_, fun i hi => ?_, fun i hi => ?_, fun i hi => ?_, fun i hi => ?_, ?_⟩, hb⟩
  · obtain ⟨_, h1, _, _⟩ := g4.el i (by rw [← n4]; exact hi); exact h1.inn
  · exact ⟨rfl, rfl, (g1.el i (by rw [← n1]; exact hi)).1, fun _ _ => rfl⟩
  · exact ⟨rfl, (g2.el i (by rw [← n2]; exact hi)).1, fun _ _ => rfl⟩
  · exact ⟨rfl, (g3.el i (by rw [← n3]; exact hi)).1, fun _ _ => rfl⟩
  · obtain ⟨_, _, _, h3⟩ := g4.el i (by rw [← n4]; exact hi); exact eqF_twins h3
  · show s1.n ≤ 14; omega
  · show s2.n ≤ 14; omega
  · show s3.n ≤ 8; omega
  · show s4.n ≤ 26; omega
  · have hi' : i < M.ext.n := by rw [← n1]; exact hi
    exact ⟨(hs.extI i hi').1, by show (t1 i).n ≤ 10; rw [(g1.el i hi').1]; exact (hs.extI i hi').2⟩
  · have hi' : i < M.glo.n := by rw [← n2]; exact hi
    exact ⟨(hs.gloI i hi').1, by show (t2 i).n ≤ 20; rw [(g2.el i hi').1]; exact (hs.gloI i hi').2⟩
  · have hi' : i < M.tab.n := by rw [← n3]; exact hi
    exact ⟨(hs.tabI i hi').1, by show (t3 i).n ≤ 16; rw [(g3.el i hi').1]; exact (hs.tabI i hi').2⟩
  · obtain ⟨_, _, h2, _⟩ := g4.el i (by rw [← n4]; exact hi); exact h2
  · show cnt (fun k => fsize (t4 k)) s4.n ≤ 160
    rw [n4]
    have e : cnt (fun k => fsize (t4 k)) M.fns.n = cnt (fun k => fsize (M.F k)) M.fns.n := cnt_same fun i hi => by
      obtain ⟨_, _, _, h3⟩ := g4.el i hi
      unfold fsize
      rw [h3.blk]
      exact cnt_same fun j hj => h3.B j hj
    rw [e]; exact hs.all

end Go.Proofs.Ythaedlnefikigaa.CpM
