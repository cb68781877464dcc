/-
  How a module lies in memory: externs, globals, tables, functions.
-/
import Derived.Test.YtbmfimojhcdnbaaOpen
import Derived.Test.YtbmfimojhcdnbaaLight
import Derived.Test.YtbmfimojhcdnbaaCopyF
namespace Go.Proofs.Ytbmfimojhcdnbaa.Mod
open Go.RowKit Go.Deep View Rd Num Opn Copy

set_option linter.unusedVariables false

/-- An extern as it lies. -/
structure EV where
  name : ByteArray
  par : Sl
  res : Int

/-- A global, a table as they lie. -/
structure GV where
  name : ByteArray
  cel : Sl

structure MV where
  ext : Sl
  glo : Sl
  tab : Sl
  fns : Sl
  E : Nat → EV
  EP : Nat → Nat → Int
  G : Nat → GV
  GC : Nat → Nat → Int
  T : Nat → GV
  TF : Nat → Nat → Int
  F : Nat → FV

abbrev MV.val (M : MV) : Value := .agg #[.slice M.ext.a M.ext.n M.ext.c, .slice M.glo.a M.glo.n M.glo.c, .slice M.tab.a M.tab.n M.tab.c, .slice M.fns.a M.fns.n M.fns.c]

structure EAt (w : World) (b o : Nat) (v : EV) : Prop where
  c0 : w.cell? ⟨b, o, none⟩ = some (.string v.name)
  c1 : w.cell? ⟨b, o + 1, none⟩ = some (.slice v.par.a v.par.n v.par.c)
  c2 : w.cell? ⟨b, o + 2, none⟩ = some (.int .i64 v.res)

structure GAt (w : World) (b o : Nat) (v : GV) : Prop where
  c0 : w.cell? ⟨b, o, none⟩ = some (.string v.name)
  c1 : w.cell? ⟨b, o + 1, none⟩ = some (.slice v.cel.a v.cel.n v.cel.c)

structure FAt (w : World) (b o : Nat) (F : FV) : Prop where
  c0 : w.cell? ⟨b, o, none⟩ = some (.string F.name)
  c1 : w.cell? ⟨b, o + 1, none⟩ = some (.bool F.out)
  c2 : w.cell? ⟨b, o + 2, none⟩ = some (.slice F.par.a F.par.n F.par.c)
  c3 : w.cell? ⟨b, o + 3, none⟩ = some (.int .i64 F.res)
  c4 : w.cell? ⟨b, o + 4, none⟩ = some (.slice F.blk.a F.blk.n F.blk.c)

theorem EAt.on {w w' : World} {b o : Nat} {v : EV} (hb : Below w.heap.size w w') (h : EAt w b o v) : EAt w' b o v := ⟨cell_on hb h.c0, cell_on hb h.c1, cell_on hb h.c2⟩
theorem GAt.on {w w' : World} {b o : Nat} {v : GV} (hb : Below w.heap.size w w') (h : GAt w b o v) : GAt w' b o v := ⟨cell_on hb h.c0, cell_on hb h.c1⟩
theorem FAt.on {w w' : World} {b o : Nat} {v : FV} (hb : Below w.heap.size w w') (h : FAt w b o v) : FAt w' b o v := ⟨cell_on hb h.c0, cell_on hb h.c1, cell_on hb h.c2, cell_on hb h.c3, cell_on hb h.c4⟩

/-- A row of things of z cells each. -/
def Row {α : Type} (z : Nat) (p : World → Nat → Nat → α → Prop) (w : World) (s : Sl) (f : Nat → α) : Prop :=
  s.n ≤ s.c ∧ s.n ≤ 140737488355328 ∧ (s.a = none → s.c = 0) ∧ (0 < s.n → ∃ b off, s.a = some ⟨b, off, none⟩ ∧ ∀ i, i < s.n → p w b (off + i * z) (f i))

theorem Row.on {α : Type} {z : Nat} {p : World → Nat → Nat → α → Prop} {w w' : World} {s : Sl} {f : Nat → α} (hp : ∀ b o v, p w b o v → p w' b o v) (h : Row z p w s f) : Row z p w' s f :=
  ⟨h.1, h.2.1, h.2.2.1, fun h0 => by
    obtain ⟨b, off, ha, hc⟩ := h.2.2.2 h0
    exact ⟨b, off, ha, fun i hi => hp _ _ _ (hc i hi)⟩⟩

theorem Row.at {α : Type} {z : Nat} {p : World → Nat → Nat → α → Prop} {w : World} {s : Sl} {f : Nat → α} (h : Row z p w s f) {T e : Nat} (hT : Try.prog.underlying T = some (.slice e)) (hz : (Try.prog.info? e).map (fun i => i.size) = some z) {k : Nat} (hk : k < s.n) :
    ∃ b o, (∀ wx, (Instr.indexAt T (.slice s.a s.n s.c) (.int .i64 k)).run Try.prog wx = .ok (.pointer (some ⟨b, o, none⟩)) wx) ∧ p w b o (f k) := by
  obtain ⟨b, off, ha, hc⟩ := h.2.2.2 (by omega)
  exact ⟨b, off + k * z, index_row ha hT hz hk, hc k hk⟩

theorem underlying22 : Try.prog.underlying 22 = some (.slice 67) := by kernel_rfl
theorem underlying23 : Try.prog.underlying 23 = some (.slice 51) := by kernel_rfl
theorem underlying24 : Try.prog.underlying 24 = some (.slice 69) := by kernel_rfl
theorem underlying25 : Try.prog.underlying 25 = some (.slice 33) := by kernel_rfl
theorem underlying49 : Try.prog.underlying 49 = some (.slice 2) := by kernel_rfl
theorem size67 : (Try.prog.info? 67).map (fun i => i.size) = some 3 := by kernel_rfl
theorem size51 : (Try.prog.info? 51).map (fun i => i.size) = some 2 := by kernel_rfl
theorem size69 : (Try.prog.info? 69).map (fun i => i.size) = some 2 := by kernel_rfl
theorem size33 : (Try.prog.info? 33).map (fun i => i.size) = some 5 := by kernel_rfl
theorem size2 : (Try.prog.info? 2).map (fun i => i.size) = some 1 := by kernel_rfl

structure InM (w : World) (M : MV) : Prop where
  ext : Row 3 EAt w M.ext M.E
  extP : ∀ i, i < M.ext.n → Ints w (M.E i).par (M.EP i)
  glo : Row 2 GAt w M.glo M.G
  gloC : ∀ i, i < M.glo.n → Ints w (M.G i).cel (M.GC i)
  tab : Row 2 GAt w M.tab M.T
  tabF : ∀ i, i < M.tab.n → Ints w (M.T i).cel (M.TF i)
  fns : Row 5 FAt w M.fns M.F
  fnI : ∀ k, k < M.fns.n → In w (M.F k)

theorem InM.on {w w' : World} {M : MV} (hb : Below w.heap.size w w') (h : InM w M) : InM w' M :=
  ⟨h.ext.on (fun _ _ _ => EAt.on hb), fun i hi => (h.extP i hi).on hb, h.glo.on (fun _ _ _ => GAt.on hb), fun i hi => (h.gloC i hi).on hb, h.tab.on (fun _ _ _ => GAt.on hb), fun i hi => (h.tabF i hi).on hb, h.fns.on (fun _ _ _ => FAt.on hb), fun k hk => (h.fnI k hk).on hb⟩

/-- All numbers of a module fit. -/
structure FitsM (M : MV) : Prop where
  ext : ∀ i, i < M.ext.n → W64 (M.E i).res ∧ ∀ k, k < (M.E i).par.n → W64 (M.EP i k)
  glo : ∀ i, i < M.glo.n → ∀ k, k < (M.G i).cel.n → W64 (M.GC i k)
  tab : ∀ i, i < M.tab.n → ∀ k, k < (M.T i).cel.n → W64 (M.TF i k)
  fns : ∀ k, k < M.fns.n → Fits (M.F k)

variable {H : Type} {enc : TypeId × Value → H} {w : World}

instance : Inhabited EV := ⟨⟨ByteArray.empty, ⟨none, 0, 0⟩, 0⟩⟩
instance : Inhabited GV := ⟨⟨ByteArray.empty, ⟨none, 0, 0⟩⟩⟩
instance : Inhabited FV := ⟨fzero⟩

theorem bytes2 : Try.prog.bytesOf 2 = 8 := by kernel_rfl

theorem open_ints64 {fuel : Nat} {cs : List Value} {x : DataW H × List MemPlace} (h : rd enc w fuel 49 cs = some x) (hw : Lgt 49 x.1) :
    ∃ (s : Sl) (f : Nat → Int), cs = [.slice s.a s.n s.c] ∧ Ints w s f ∧ ∀ i, i < s.n → W64 (f i) := by
  obtain ⟨s, n, b, off, D, Pl, rfl, h1, h2, h3, h4, h5⟩ := open_row underlying49 cells2 (by decide) bytes2 (by decide) h hw
  obtain ⟨f, hf⟩ := choose_lt (α := Int) (n := s.n) (p := fun i v => w.cell? ⟨b, off + i, none⟩ = some (.int .i64 v) ∧ W64 v) (fun i hi => by
    obtain ⟨cs', c1, c2, c3, _⟩ := h5 i hi
    obtain ⟨v, rfl, _, hwf⟩ := DataW.trod_int underlying2 c3
    have := c2 0 (by decide)
    exact ⟨v, by simpa using this, w64_of hwf⟩)
  exact ⟨s, f, rfl, ⟨h1, h2, h3, fun h0 => ⟨b, off, h4 h0, fun i hi => (hf i hi).1⟩⟩, fun i hi => (hf i hi).2⟩

theorem len2 {α : Type} {l : List α} (h : l.length = 2) : ∃ a b, l = [a, b] := by
  match l, h with | [a, b], _ => exact ⟨a, b, rfl⟩
theorem len3 {α : Type} {l : List α} (h : l.length = 3) : ∃ a b c, l = [a, b, c] := by
  match l, h with | [a, b, c], _ => exact ⟨a, b, c, rfl⟩
theorem len4 {α : Type} {l : List α} (h : l.length = 4) : ∃ a b c d, l = [a, b, c, d] := by
  match l, h with | [a, b, c, d], _ => exact ⟨a, b, c, d, rfl⟩

theorem cells67 : Try.prog.cellsOf 67 = 3 := by kernel_rfl
theorem cells51 : Try.prog.cellsOf 51 = 2 := by kernel_rfl
theorem cells69 : Try.prog.cellsOf 69 = 2 := by kernel_rfl
theorem cells49 : Try.prog.cellsOf 49 = 1 := by kernel_rfl
theorem cells27 : Try.prog.cellsOf 27 = 4 := by kernel_rfl
theorem cells22 : Try.prog.cellsOf 22 = 1 := by kernel_rfl
theorem cells23 : Try.prog.cellsOf 23 = 1 := by kernel_rfl
theorem cells24 : Try.prog.cellsOf 24 = 1 := by kernel_rfl
theorem cells25 : Try.prog.cellsOf 25 = 1 := by kernel_rfl
theorem bytes67 : Try.prog.bytesOf 67 = 48 := by kernel_rfl
theorem bytes51 : Try.prog.bytesOf 51 = 40 := by kernel_rfl
theorem bytes69 : Try.prog.bytesOf 69 = 40 := by kernel_rfl
theorem bytes33 : Try.prog.bytesOf 33 = 80 := by kernel_rfl

theorem open_ext {fuel : Nat} {cs : List Value} {x : DataW H × List MemPlace} (h : rd enc w fuel 67 cs = some x) (hw : Lgt 67 x.1) :
    ∃ (v : EV) (f : Nat → Int), cs = [.string v.name, .slice v.par.a v.par.n v.par.c, .int .i64 v.res] ∧ Ints w v.par f ∧ W64 v.res ∧ ∀ i, i < v.par.n → W64 (f i) := by
  obtain ⟨xs, n, _, rfl, hl, hx, hf⟩ := DataW.trod_struct Try.underlying67 h
  rw [cells67] at hl
  obtain ⟨c0, c1, c2, rfl⟩ := len3 hl
  obtain ⟨y0, y1, y2, rfl⟩ := len3 (show xs.length = 3 from hx)
  have f0 := hf 0 _ rfl
  have f1 := hf 1 _ rfl
  have f2 := hf 2 _ rfl
  have w1 : Lgt 28 y1.1 := Lgt.part Try.underlying67 hw (i := 1) rfl rfl
  simp [cells3, cells9, cells28] at f0 f1 f2
  obtain ⟨nm, e0, _, b0⟩ := DataW.trod_string Try.underlying9 f0
  obtain ⟨sp, P, e1, i1, b1⟩ := open_intsV f1 w1
  obtain ⟨re, e2, _, b2⟩ := DataW.trod_int underlying3 f2
  simp at e0 e1 e2
  subst e0 e1 e2
  exact ⟨⟨nm, sp, re⟩, P, rfl, i1, w64_of b2, b1⟩

theorem open_glo {fuel : Nat} {cs : List Value} {x : DataW H × List MemPlace} (h : rd enc w fuel 51 cs = some x) (hw : Lgt 51 x.1) :
    ∃ (v : GV) (f : Nat → Int), cs = [.string v.name, .slice v.cel.a v.cel.n v.cel.c] ∧ Ints w v.cel f ∧ ∀ i, i < v.cel.n → W64 (f i) := by
  obtain ⟨xs, n, _, rfl, hl, hx, hf⟩ := DataW.trod_struct Try.underlying51 h
  rw [cells51] at hl
  obtain ⟨c0, c1, rfl⟩ := len2 hl
  obtain ⟨y0, y1, rfl⟩ := len2 (show xs.length = 2 from hx)
  have f0 := hf 0 _ rfl
  have f1 := hf 1 _ rfl
  have w1 : Lgt 49 y1.1 := Lgt.part Try.underlying51 hw (i := 1) rfl rfl
  simp [cells9, cells49] at f0 f1
  obtain ⟨nm, e0, _, b0⟩ := DataW.trod_string Try.underlying9 f0
  obtain ⟨sp, P, e1, i1, b1⟩ := open_ints64 f1 w1
  simp at e0 e1
  subst e0 e1
  exact ⟨⟨nm, sp⟩, P, rfl, i1, b1⟩

theorem open_tab {fuel : Nat} {cs : List Value} {x : DataW H × List MemPlace} (h : rd enc w fuel 69 cs = some x) (hw : Lgt 69 x.1) :
    ∃ (v : GV) (f : Nat → Int), cs = [.string v.name, .slice v.cel.a v.cel.n v.cel.c] ∧ Ints w v.cel f ∧ ∀ i, i < v.cel.n → W64 (f i) := by
  obtain ⟨xs, n, _, rfl, hl, hx, hf⟩ := DataW.trod_struct Try.underlying69 h
  rw [cells69] at hl
  obtain ⟨c0, c1, rfl⟩ := len2 hl
  obtain ⟨y0, y1, rfl⟩ := len2 (show xs.length = 2 from hx)
  have f0 := hf 0 _ rfl
  have f1 := hf 1 _ rfl
  have w1 : Lgt 28 y1.1 := Lgt.part Try.underlying69 hw (i := 1) rfl rfl
  simp [cells9, cells28] at f0 f1
  obtain ⟨nm, e0, _, b0⟩ := DataW.trod_string Try.underlying9 f0
  obtain ⟨sp, P, e1, i1, b1⟩ := open_intsV f1 w1
  simp at e0 e1
  subst e0 e1
  exact ⟨⟨nm, sp⟩, P, rfl, i1, b1⟩

/-- A module. -/
theorem open_mod {fuel : Nat} {cs : List Value} {x : DataW H × List MemPlace} (h : rd enc w fuel 27 cs = some x) (hw : Lgt 27 x.1) :
    ∃ M : MV, cs = [.slice M.ext.a M.ext.n M.ext.c, .slice M.glo.a M.glo.n M.glo.c, .slice M.tab.a M.tab.n M.tab.c, .slice M.fns.a M.fns.n M.fns.c] ∧ InM w M ∧ FitsM M := by
  obtain ⟨xs, n, _, rfl, hl, hx, hf⟩ := DataW.trod_struct Try.underlying27 h
  rw [cells27] at hl
  obtain ⟨c0, c1, c2, c3, rfl⟩ := len4 hl
  obtain ⟨y0, y1, y2, y3, rfl⟩ := len4 (show xs.length = 4 from hx)
  have f0 := hf 0 _ rfl
  have f1 := hf 1 _ rfl
  have f2 := hf 2 _ rfl
  have f3 := hf 3 _ rfl
  have w0 : Lgt 22 y0.1 := Lgt.part Try.underlying27 hw (i := 0) rfl rfl
  have w1 : Lgt 23 y1.1 := Lgt.part Try.underlying27 hw (i := 1) rfl rfl
  have w2 : Lgt 24 y2.1 := Lgt.part Try.underlying27 hw (i := 2) rfl rfl
  have w3 : Lgt 25 y3.1 := Lgt.part Try.underlying27 hw (i := 3) rfl rfl
  simp [cells22, cells23, cells24, cells25] at f0 f1 f2 f3
  obtain ⟨se, ne, be, oe, De, Ple, e0, a1, a2, a3, a4, a5⟩ := open_row underlying22 cells67 (by decide) bytes67 (by decide) f0 w0
  obtain ⟨sg, ng, bg, og, Dg, Plg, e1, g1, g2, g3, g4, g5⟩ := open_row underlying23 cells51 (by decide) bytes51 (by decide) f1 w1
  obtain ⟨st, nt, bt, ot, Dt, Plt, e2, t1, t2, t3, t4, t5⟩ := open_row underlying24 cells69 (by decide) bytes69 (by decide) f2 w2
  obtain ⟨sf, nf, bf, of_, Df, Plf, e3, k1, k2, k3, k4, k5⟩ := open_row underlying25 cells33 (by decide) bytes33 (by decide) f3 w3
  simp at e0 e1 e2 e3
  subst e0 e1 e2 e3
  obtain ⟨fe, he⟩ := choose_lt (α := EV × (Nat → Int)) (n := se.n) (p := fun i v => EAt w be (oe + i * 3) v.1 ∧ Ints w v.1.par v.2 ∧ W64 v.1.res ∧ ∀ k, k < v.1.par.n → W64 (v.2 k)) (fun i hi => by
    obtain ⟨cs', c1, c2, c3, c4⟩ := a5 i hi
    obtain ⟨v, f, rfl, hr⟩ := open_ext c3 c4
    exact ⟨(v, f), ⟨by simpa using c2 0 (by decide), c2 1 (by decide), c2 2 (by decide)⟩, hr⟩)
  obtain ⟨fg, hg⟩ := choose_lt (α := GV × (Nat → Int)) (n := sg.n) (p := fun i v => GAt w bg (og + i * 2) v.1 ∧ Ints w v.1.cel v.2 ∧ ∀ k, k < v.1.cel.n → W64 (v.2 k)) (fun i hi => by
    obtain ⟨cs', c1, c2, c3, c4⟩ := g5 i hi
    obtain ⟨v, f, rfl, hr⟩ := open_glo c3 c4
    exact ⟨(v, f), ⟨by simpa using c2 0 (by decide), c2 1 (by decide)⟩, hr⟩)
  obtain ⟨ft, ht⟩ := choose_lt (α := GV × (Nat → Int)) (n := st.n) (p := fun i v => GAt w bt (ot + i * 2) v.1 ∧ Ints w v.1.cel v.2 ∧ ∀ k, k < v.1.cel.n → W64 (v.2 k)) (fun i hi => by
    obtain ⟨cs', c1, c2, c3, c4⟩ := t5 i hi
    obtain ⟨v, f, rfl, hr⟩ := open_tab c3 c4
    exact ⟨(v, f), ⟨by simpa using c2 0 (by decide), c2 1 (by decide)⟩, hr⟩)
  obtain ⟨ff, hff⟩ := choose_lt (α := FV) (n := sf.n) (p := fun i v => FAt w bf (of_ + i * 5) v ∧ In w v ∧ Fits v) (fun i hi => by
    obtain ⟨cs', c1, c2, c3, c4⟩ := k5 i hi
    obtain ⟨v, rfl, h1, h2, _⟩ := open_func c3 c4
    exact ⟨v, ⟨by simpa using c2 0 (by decide), c2 1 (by decide), c2 2 (by decide), c2 3 (by decide), c2 4 (by decide)⟩, h1, h2⟩)
  exact ⟨⟨se, sg, st, sf, fun i => (fe i).1, fun i => (fe i).2, fun i => (fg i).1, fun i => (fg i).2, fun i => (ft i).1, fun i => (ft i).2, ff⟩, rfl,
    ⟨⟨a1, a2, a3, fun h0 => ⟨be, oe, a4 h0, fun i hi => (he i hi).1⟩⟩, fun i hi => (he i hi).2.1, ⟨g1, g2, g3, fun h0 => ⟨bg, og, g4 h0, fun i hi => (hg i hi).1⟩⟩, fun i hi => (hg i hi).2.1, ⟨t1, t2, t3, fun h0 => ⟨bt, ot, t4 h0, fun i hi => (ht i hi).1⟩⟩, fun i hi => (ht i hi).2.1, ⟨k1, k2, k3, fun h0 => ⟨bf, of_, k4 h0, fun i hi => (hff i hi).1⟩⟩, fun i hi => (hff i hi).2.1⟩,
    ⟨fun i hi => (he i hi).2.2, fun i hi => (hg i hi).2.2, fun i hi => (ht i hi).2.2, fun i hi => (hff i hi).2.2⟩⟩

end Go.Proofs.Ytbmfimojhcdnbaa.Mod
