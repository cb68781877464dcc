/-
  A module's copy, in new memory: ir.Copy.
-/
import Derived.Test.YtclioagemjpnoaaCopyM3
import Derived.Test.YtclioagemjpnoaaSmall
import Derived.Deep.RegionHeld3
namespace Go.Proofs.Ytclioagemjpnoaa.CpM
open Go.RowKit View Rd Copy Srt Go.Proofs.Ytclioagemjpnoaa.Own Go.Proofs.Ytclioagemjpnoaa.Mod

set_option linter.unusedVariables false

abbrev csE (V : Nat → EV) (i : Nat) (t : Sl) : List Value := [.string (V i).name, .slice t.a t.n t.c, .int .i64 (V i).res]
abbrev csG (V : Nat → GV) (i : Nat) (t : Sl) : List Value := [.string (V i).name, .slice t.a t.n t.c]
abbrev csF (i : Nat) (t : FV) : List Value := [.string t.name, .bool t.out, .slice t.par.a t.par.n t.par.c, .int .i64 t.res, .slice t.blk.a t.blk.n t.blk.c]

/-- A row that was copied, as a slice. -/
def Part {α : Type} (T z n base : Nat) (cs : Nat → α → List Value) (El : Nat → World → Nat → α → Prop) (w : World) (s : Sl) : Prop :=
  ∃ G, s = ⟨some ⟨G, 0, none⟩, n, n⟩ ∧ base ≤ G ∧ ∃ t, Each G T z n n w cs (El (G + 1)) t

theorem part_of {α : Type} {T z n base : Nat} {cs : Nat → α → List Value} {El : Nat → World → Nat → α → Prop} {w w' : World} {e : Ending} (h : NewEach T z n cs El w e w') (hb : base ≤ w.heap.size) :
    ∃ s : Sl, e = .returned (.slice s.a s.n s.c) ∧ Part T z n base cs El w' s ∧ Below w.heap.size w w' := by
  obtain ⟨rfl, ht, hbl⟩ := h
  exact ⟨⟨some ⟨w.heap.size, 0, none⟩, n, n⟩, rfl, ⟨_, rfl, hb, ht⟩, hbl⟩

theorem Part.on {α : Type} {T z n base : Nat} {cs : Nat → α → List Value} {El : Nat → World → Nat → α → Prop} {w w' : World} {s : Sl} (hel : ∀ b i a, El b w i a → El b w' i a) (hb : Below w.heap.size w w') (h : Part T z n base cs El w s) : Part T z n base cs El w' s := by
  obtain ⟨G, h1, h2, t, h3⟩ := h
  exact ⟨G, h1, h2, t, owns_on hb h3.own, fun i hi => hel _ i _ (h3.el i hi)⟩

theorem Part.kept {α : Type} {T z n base : Nat} {cs : Nat → α → List Value} {El : Nat → World → Nat → α → Prop} {w w' : World} {s : Sl} (hel : ∀ b, base ≤ b → ∀ i a, El b w i a → El b w' i a) (hb : Kept (fun k => base ≤ k) w w') (h : Part T z n base cs El w s) : Part T z n base cs El w' s := by
  obtain ⟨G, h1, h2, t, h3⟩ := h
  exact ⟨G, h1, h2, t, owns_kept h3.own hb h2, fun i hi => hel _ (by omega) i _ (h3.el i hi)⟩

theorem ElS.kept {N : Nat → Nat} {C : Nat → Nat → Int} {base b : Nat} {w w' : World} {i : Nat} {t : Sl} (hb : Kept (fun k => base ≤ k) w w') (h0 : base ≤ b) (h : ElS N C b w i t) : ElS N C b w' i t :=
  ⟨h.1, h.2.1.kept' h.2.2 hb (fun k h1 _ => by omega), (h.2.2.kept hb (fun k h1 _ => by omega)).wide (Nat.le_refl _) hb.size⟩

theorem ElF.kept {F : Nat → FV} {base b : Nat} {w w' : World} {i : Nat} {T : FV} (hb : Kept (fun k => base ≤ k) w w') (h0 : base ≤ b) (h : ElF F b w i T) : ElF F b w' i T := by
  obtain ⟨a, h1, h2, h3⟩ := h
  exact ⟨a, Own.apart h1 ⟨hb.size, fun k hk => hb.block k (by omega)⟩, h2, h3⟩

theorem weak {B B' : Nat} {w w' : World} (h : B' ≤ B) (hb : Below B w w') : Below B' w w' := ⟨hb.os, hb.tape, hb.output, hb.size, fun k hk => hb.block k (by omega)⟩

theorem four {B N : Nat} {w w' : World} {a b c d : Value} (h : B ≤ N) (hb : Below B w w') : Below B w ((((w'.setCell ⟨N, 0, none⟩ a).setCell ⟨N, 1, none⟩ b).setCell ⟨N, 2, none⟩ c).setCell ⟨N, 3, none⟩ d) :=
  (((hb.setCell (p := ⟨N, 0, none⟩) h a).setCell (p := ⟨N, 1, none⟩) h b).setCell (p := ⟨N, 2, none⟩) h c).setCell (p := ⟨N, 3, none⟩) h d

/-- What ir.Copy gives. -/
def CopyOfM (M : MV) (w : World) (e : Ending) (w' : World) : Prop :=
  ∃ N : MV, e = .returned N.val ∧ Part 68 3 M.ext.n (w.heap.size + 2) (csE M.E) (ElS (fun i => (M.E i).par.n) M.EP) w' N.ext ∧ Part 71 2 M.glo.n (w.heap.size + 2) (csG M.G) (ElS (fun i => (M.G i).cel.n) M.GC) w' N.glo ∧
    Part 73 2 M.tab.n (w.heap.size + 2) (csG M.T) (ElS (fun i => (M.T i).cel.n) M.TF) w' N.tab ∧ Part 35 5 M.fns.n (w.heap.size + 2) csF (ElF M.F) w' N.fns ∧ Below w.heap.size w w'

theorem copyM_fin {M : MV} {w W w1 w2 : World} {s1 s2 s3 s4 : Sl} (hz : W.heap.size = w.heap.size + 2) (h1 : Part 68 3 M.ext.n W.heap.size (csE M.E) (ElS (fun i => (M.E i).par.n) M.EP) w1 s1) (h2 : Part 71 2 M.glo.n W.heap.size (csG M.G) (ElS (fun i => (M.G i).cel.n) M.GC) w1 s2)
    (h3 : Part 73 2 M.tab.n W.heap.size (csG M.T) (ElS (fun i => (M.T i).cel.n) M.TF) w1 s3) (h4 : Part 35 5 M.fns.n W.heap.size csF (ElF M.F) w1 s4) (k : Kept (fun k => w.heap.size + 2 ≤ k) w1 w2) (hb : Below w.heap.size w w2) :
    CopyOfM M w (.returned (.agg #[.slice s1.a s1.n s1.c, .slice s2.a s2.n s2.c, .slice s3.a s3.n s3.c, .slice s4.a s4.n s4.c])) w2 := by
  rw [hz] at h1 h2 h3 h4
  exact ⟨⟨s1, s2, s3, s4, fun _ => default, fun _ _ => 0, fun _ => default, fun _ _ => 0, fun _ => default, fun _ _ => 0, fun _ => default⟩, rfl, h1.kept (fun b hb i a => ElS.kept k hb) k, h2.kept (fun b hb i a => ElS.kept k hb) k, h3.kept (fun b hb i a => ElS.kept k hb) k, h4.kept (fun b hb i a => ElF.kept k hb) k, hb⟩

end Go.Proofs.Ytclioagemjpnoaa.CpM
