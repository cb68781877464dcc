/-
  A module that was copied row by row is the module.
-/
import Derived.Test.YtclioagemjpnoaaGrowE
import Derived.Test.YtclioagemjpnoaaCopyM5
namespace Go.Proofs.Ytclioagemjpnoaa.CpM
open Go.RowKit View Rd Copy Srt Go.Proofs.Ytclioagemjpnoaa.Own Go.Proofs.Ytclioagemjpnoaa.Mod

set_option linter.unusedVariables false

/-- A module's four rows in a variable. -/
structure MBox (w : World) (b : Nat) (M : MV) : Prop where
  c0 : w.cell? ⟨b, 0, none⟩ = some (.slice M.ext.a M.ext.n M.ext.c)
  c1 : w.cell? ⟨b, 1, none⟩ = some (.slice M.glo.a M.glo.n M.glo.c)
  c2 : w.cell? ⟨b, 2, none⟩ = some (.slice M.tab.a M.tab.n M.tab.c)
  c3 : w.cell? ⟨b, 3, none⟩ = some (.slice M.fns.a M.fns.n M.fns.c)

theorem MBox.at_block {w w' : World} {b : Nat} {M : MV} (h : MBox w b M) (e : w'.heap[b]? = w.heap[b]?) : MBox w' b M :=
  ⟨by rw [World.cell?_of_block (w := w) e]; exact h.c0, by rw [World.cell?_of_block (w := w) e]; exact h.c1, by rw [World.cell?_of_block (w := w) e]; exact h.c2, by rw [World.cell?_of_block (w := w) e]; exact h.c3⟩

theorem MBox.on {w w' : World} {b : Nat} {M : MV} (hb : Below w.heap.size w w') (h : MBox w b M) : MBox w' b M := ⟨cell_on hb h.c0, cell_on hb h.c1, cell_on hb h.c2, cell_on hb h.c3⟩
theorem MBox.alloc (w : World) (M : MV) : MBox (w.alloc (.cells (mcells M) 27)) w.heap.size M := ⟨by simp, by simp, by simp, by simp⟩

abbrev zeroM : MV := ⟨⟨none, 0, 0⟩, ⟨none, 0, 0⟩, ⟨none, 0, 0⟩, ⟨none, 0, 0⟩, fun _ => default, fun _ _ => 0, fun _ => default, fun _ _ => 0, fun _ => default, fun _ _ => 0, fun _ => default⟩

/-- The copy as it lies. -/
abbrev growN (M : MV) (s1 s2 s3 s4 : Sl) (t1 t2 t3 : Nat → Sl) (t4 : Nat → FV) : MV := ⟨s1, s2, s3, s4, fun i => ⟨(M.E i).name, t1 i, (M.E i).res⟩, M.EP, fun i => ⟨(M.G i).name, t2 i⟩, M.GC, fun i => ⟨(M.T i).name, t3 i⟩, M.TF, t4⟩

theorem copied_growN {M : MV} {w wf : World} {s1 s2 s3 s4 : Sl} {X1 X2 X3 X4 : Nat} {t1 t2 t3 : Nat → Sl} {t4 : Nat → FV} (hs : SmallM M)
    (g1 : Grow X1 68 3 M.ext.n wf (slv s1) (csE M.E) (ElS (fun i => (M.E i).par.n) M.EP X1) FpS t1) (g2 : Grow X2 71 2 M.glo.n wf (slv s2) (csG M.G) (ElS (fun i => (M.G i).cel.n) M.GC X2) FpS t2)
    (g3 : Grow X3 73 2 M.tab.n wf (slv s3) (csG M.T) (ElS (fun i => (M.T i).cel.n) M.TF X3) FpS t3) (g4 : Grow X4 35 5 M.fns.n wf (slv s4) csF (ElF M.F X4) FpF t4) (hb : Below w.heap.size w wf) :
    InM wf (growN M s1 s2 s3 s4 t1 t2 t3 t4) ∧ EqM (growN M s1 s2 s3 s4 t1 t2 t3 t4) M ∧ SmallM (growN M s1 s2 s3 s4 t1 t2 t3 t4) := by
  have m1 := hs.ext
  have m2 := hs.glo
  have m3 := hs.tab
  have m4 := hs.fns
  obtain ⟨n1, r1⟩ := grow_row (p := EAt) (f := fun i => (⟨(M.E i).name, t1 i, (M.E i).res⟩ : EV)) g1 (by omega) (fun _ _ => rfl) (fun g i hi h => ⟨h 0 (by decide), h 1 (by decide), h 2 (by decide)⟩)
  obtain ⟨n2, r2⟩ := grow_row (p := GAt) (f := fun i => (⟨(M.G i).name, t2 i⟩ : GV)) g2 (by omega) (fun _ _ => rfl) (fun g i hi h => ⟨h 0 (by decide), h 1 (by decide)⟩)
  obtain ⟨n3, r3⟩ := grow_row (p := GAt) (f := fun i => (⟨(M.T i).name, t3 i⟩ : GV)) g3 (by omega) (fun _ _ => rfl) (fun g i hi h => ⟨h 0 (by decide), h 1 (by decide)⟩)
  obtain ⟨n4, r4⟩ := grow_row (p := FAt) (f := t4) g4 (by omega) (fun _ _ => rfl) (fun g i hi h => ⟨h 0 (by decide), h 1 (by decide), h 2 (by decide), h 3 (by decide), h 4 (by decide)⟩)
  refine ⟨⟨r1, fun i hi => (g1.el i (by rw [← n1]; exact hi)).2.1, r2, fun i hi => (g2.el i (by rw [← n2]; exact hi)).2.1, r3, fun i hi => (g3.el i (by rw [← n3]; exact hi)).2.1, r4, fun i hi => ?_⟩, ⟨⟨n1, fun i hi => ?_⟩, ⟨n2, fun i hi => ?_⟩, ⟨n3, fun i hi => ?_⟩, ⟨n4, fun i hi => ?_⟩⟩, ⟨?_, ?_, ?_, ?_, fun i hi => ?_, fun i hi => ?_, fun i hi => ?_, fun i hi => ?_, ?_⟩⟩
  · obtain ⟨_, h1, _, _⟩ := g4.el i (by rw [← n4]; exact hi); exact h1.inn
  · exact ⟨rfl, rfl, (g1.el i (by rw [← n1]; exact hi)).1, fun _ _ => rfl⟩
  · exact ⟨rfl, (g2.el i (by rw [← n2]; exact hi)).1, fun _ _ => rfl⟩
  · exact ⟨rfl, (g3.el i (by rw [← n3]; exact hi)).1, fun _ _ => rfl⟩
  · obtain ⟨_, _, _, h3⟩ := g4.el i (by rw [← n4]; exact hi); exact eqF_twins h3
  · show s1.n ≤ 14; omega
  · show s2.n ≤ 14; omega
  · show s3.n ≤ 8; omega
  · show s4.n ≤ 26; omega
  · have hi' : i < M.ext.n := by rw [← n1]; exact hi
    exact ⟨(hs.extI i hi').1, by show (t1 i).n ≤ 10; rw [(g1.el i hi').1]; exact (hs.extI i hi').2⟩
  · have hi' : i < M.glo.n := by rw [← n2]; exact hi
    exact ⟨(hs.gloI i hi').1, by show (t2 i).n ≤ 20; rw [(g2.el i hi').1]; exact (hs.gloI i hi').2⟩
  · have hi' : i < M.tab.n := by rw [← n3]; exact hi
    exact ⟨(hs.tabI i hi').1, by show (t3 i).n ≤ 16; rw [(g3.el i hi').1]; exact (hs.tabI i hi').2⟩
  · obtain ⟨_, _, h2, _⟩ := g4.el i (by rw [← n4]; exact hi); exact h2
  · show cnt (fun k => fsize (t4 k)) s4.n ≤ 160
    rw [n4]
    have e : cnt (fun k => fsize (t4 k)) M.fns.n = cnt (fun k => fsize (M.F k)) M.fns.n := cnt_same fun i hi => by
      obtain ⟨_, _, _, h3⟩ := g4.el i hi
      unfold fsize
      rw [h3.blk]
      exact cnt_same fun j hj => h3.B j hj
    rw [e]; exact hs.all

/-- The copy's rows lie apart: the functions' from X on, each in blocks of its own, the others' below. -/
structure Sep (X : Nat) (w : World) (N : MV) : Prop where
  le : X ≤ w.heap.size
  low : ∀ w', w.heap.size ≤ w'.heap.size → (∀ b, b < X → w'.heap[b]? = w.heap[b]?) → (Row 3 EAt w' N.ext N.E ∧ ∀ i, i < N.ext.n → Ints w' (N.E i).par (N.EP i)) ∧ (Row 2 GAt w' N.glo N.G ∧ ∀ i, i < N.glo.n → Ints w' (N.G i).cel (N.GC i)) ∧ (Row 2 GAt w' N.tab N.T ∧ ∀ i, i < N.tab.n → Ints w' (N.T i).cel (N.TF i))
  own : ∀ i, i < N.fns.n → ∃ at_, Own X w (N.F i) at_
  dis : ∀ i j, i < N.fns.n → j < N.fns.n → i ≠ j → ∀ b, FpF (N.F i) b → ¬ FpF (N.F j) b
  fns : 0 < N.fns.n → ∃ g, N.fns.a = some ⟨g, 0, none⟩ ∧ X ≤ g ∧ g < w.heap.size ∧ (∀ i, w.frozen? ⟨g, i, none⟩ = false) ∧ ∀ i, i < N.fns.n → ¬ FpF (N.F i) g

def CopiedS (M : MV) (w : World) (e : Ending) (w' : World) : Prop := ∃ (N : MV) (X : Nat), e = .returned N.val ∧ InM w' N ∧ EqM N M ∧ SmallM N ∧ Below w.heap.size w w' ∧ w.heap.size < X ∧ Sep X w' N

theorem copied_sep {M : MV} {w ws wf : World} {s1 s2 s3 s4 : Sl} {X1 X2 X3 : Nat} {t1 t2 t3 : Nat → Sl} {t4 : Nat → FV} (hs : SmallM M)
    (g1 : Grow X1 68 3 M.ext.n ws (slv s1) (csE M.E) (ElS (fun i => (M.E i).par.n) M.EP X1) FpS t1) (g2 : Grow X2 71 2 M.glo.n ws (slv s2) (csG M.G) (ElS (fun i => (M.G i).cel.n) M.GC X2) FpS t2)
    (g3 : Grow X3 73 2 M.tab.n ws (slv s3) (csG M.T) (ElS (fun i => (M.T i).cel.n) M.TF X3) FpS t3) (g4 : Grow ws.heap.size 35 5 M.fns.n wf (slv s4) csF (ElF M.F ws.heap.size) FpF t4) (hb : Below w.heap.size w wf)
    (hz : ws.heap.size ≤ wf.heap.size) (kp : ∀ b, w.heap.size + 2 < b → b < ws.heap.size → wf.heap[b]? = ws.heap[b]?) (x1 : w.heap.size + 2 < X1) (x2 : w.heap.size + 2 < X2) (x3 : w.heap.size + 2 < X3) (x4 : w.heap.size + 2 < ws.heap.size) :
    CopiedS M w (.returned (.agg #[.slice s1.a s1.n s1.c, .slice s2.a s2.n s2.c, .slice s3.a s3.n s3.c, .slice s4.a s4.n s4.c])) wf := by
  have m1 := hs.ext
  have m2 := hs.glo
  have m3 := hs.tab
  have m4 := hs.fns
  have f1 := g1.keep (elS_stable _ _ _) hz (fun b h1 h2 => kp b (by omega) h2)
  have f2 := g2.keep (elS_stable _ _ _) hz (fun b h1 h2 => kp b (by omega) h2)
  have f3 := g3.keep (elS_stable _ _ _) hz (fun b h1 h2 => kp b (by omega) h2)
  obtain ⟨c1, c2, c3⟩ := copied_growN hs f1 f2 f3 g4 hb
  have n4 : s4.n = M.fns.n := c2.fns.1
  refine ⟨growN M s1 s2 s3 s4 t1 t2 t3 t4, ws.heap.size, rfl, c1, c2, c3, hb, by omega, hz, fun w' hz' hk => ?_, fun i hi => ?_, fun i j hi hj hne b h1 h2 => ?_, fun h0 => ?_⟩
  · have e1 := g1.keep (w' := w') (elS_stable _ _ _) (by omega) (fun b h1 h2 => by rw [hk b h2]; exact kp b (by omega) h2)
    have e2 := g2.keep (w' := w') (elS_stable _ _ _) (by omega) (fun b h1 h2 => by rw [hk b h2]; exact kp b (by omega) h2)
    have e3 := g3.keep (w' := w') (elS_stable _ _ _) (by omega) (fun b h1 h2 => by rw [hk b h2]; exact kp b (by omega) h2)
    obtain ⟨n1, r1⟩ := grow_row (p := EAt) (f := fun i => (⟨(M.E i).name, t1 i, (M.E i).res⟩ : EV)) e1 (by omega) (fun _ _ => rfl) (fun g i hi h => ⟨h 0 (by decide), h 1 (by decide), h 2 (by decide)⟩)
    obtain ⟨n2, r2⟩ := grow_row (p := GAt) (f := fun i => (⟨(M.G i).name, t2 i⟩ : GV)) e2 (by omega) (fun _ _ => rfl) (fun g i hi h => ⟨h 0 (by decide), h 1 (by decide)⟩)
    obtain ⟨n3, r3⟩ := grow_row (p := GAt) (f := fun i => (⟨(M.T i).name, t3 i⟩ : GV)) e3 (by omega) (fun _ _ => rfl) (fun g i hi h => ⟨h 0 (by decide), h 1 (by decide)⟩)
    exact ⟨⟨r1, fun i hi => (e1.el i (by rw [← n1]; exact hi)).2.1⟩, ⟨r2, fun i hi => (e2.el i (by rw [← n2]; exact hi)).2.1⟩, ⟨r3, fun i hi => (e3.el i (by rw [← n3]; exact hi)).2.1⟩⟩
  · obtain ⟨at_, h1, _, _⟩ := g4.el i (by rw [← n4]; exact hi)
    exact ⟨at_, h1⟩
  · exact g4.dis i j (by rw [← n4]; exact hi) (by rw [← n4]; exact hj) hne b h1 h2
  · have h0' : 0 < s4.n := h0
    rcases g4.own.2 with ⟨e, hn⟩ | ⟨g, cap, cur, e, hbg, hg, hnc, hm, hsz, ht⟩
    · omega
    · have e' : s4.a = some ⟨g, 0, none⟩ := by
        have := e
        simp [slv] at this
        exact this.1
      refine ⟨g, e', hbg, (Array.getElem?_eq_some_iff.1 hg).1, fun i => ?_, fun i hi hf => ?_⟩
      · unfold World.frozen?
        simp [hg]
      · have := (g4.fp i (by rw [← n4]; exact hi) g hf).2.2
        apply this
        show some g = Value.ownBlock (.slice s4.a s4.n s4.c)
        rw [e']; rfl

theorem copied_of_sep {M : MV} {w w' : World} {e : Ending} (h : CopiedS M w e w') : Copied M w e w' := by
  obtain ⟨N, X, h1, h2, h3, h4, h5, _⟩ := h
  exact ⟨N, h1, h2, h3, h4, h5⟩

end Go.Proofs.Ytclioagemjpnoaa.CpM
