/-
  Mod, Renum, Ty, ChkY: laid together.
-/
import Derived.Test.YtolipafcoolpgaaGreatJ0
import Derived.Deep.OwnRows
/-
  How a module lies in memory: externs, globals, tables, functions.
-/
namespace Go.Proofs.YtolipafcoolpgaaGreat.Mod
open Go.RowKit Go.Deep View Rd Num Opn Copy

set_option linter.unusedVariables false

structure EV where
 name : ByteArray
 par : Sl
 res : Int

structure GV where
 name : ByteArray
 cel : Sl

structure MV where
 ext : Sl
 glo : Sl
 tab : Sl
 fns : Sl
 E : Nat → EV
 EP : Nat → Nat → Int
 G : Nat → GV
 GC : Nat → Nat → Int
 T : Nat → GV
 TF : Nat → Nat → Int
 F : Nat → FV

abbrev MV.val (M : MV) : Value := .agg #[.slice M.ext.a M.ext.n M.ext.c, .slice M.glo.a M.glo.n M.glo.c, .slice M.tab.a M.tab.n M.tab.c, .slice M.fns.a M.fns.n M.fns.c]

structure EAt (w : World) (b o : Nat) (v : EV) : Prop where
 c0 : w.cell? ⟨b, o, none⟩ = some (.string v.name)
 c1 : w.cell? ⟨b, o + 1, none⟩ = some (.slice v.par.a v.par.n v.par.c)
 c2 : w.cell? ⟨b, o + 2, none⟩ = some (.int .i64 v.res)

structure GAt (w : World) (b o : Nat) (v : GV) : Prop where
 c0 : w.cell? ⟨b, o, none⟩ = some (.string v.name)
 c1 : w.cell? ⟨b, o + 1, none⟩ = some (.slice v.cel.a v.cel.n v.cel.c)

structure FAt (w : World) (b o : Nat) (F : FV) : Prop where
 c0 : w.cell? ⟨b, o, none⟩ = some (.string F.name)
 c1 : w.cell? ⟨b, o + 1, none⟩ = some (.bool F.out)
 c2 : w.cell? ⟨b, o + 2, none⟩ = some (.slice F.par.a F.par.n F.par.c)
 c3 : w.cell? ⟨b, o + 3, none⟩ = some (.int .i64 F.res)
 c4 : w.cell? ⟨b, o + 4, none⟩ = some (.slice F.blk.a F.blk.n F.blk.c)

theorem EAt.on {w w' : World} {b o : Nat} {v : EV} (hb : Below w.heap.size w w') (h : EAt w b o v) : EAt w' b o v := ⟨cell_on hb h.c0, cell_on hb h.c1, cell_on hb h.c2⟩
theorem GAt.on {w w' : World} {b o : Nat} {v : GV} (hb : Below w.heap.size w w') (h : GAt w b o v) : GAt w' b o v := ⟨cell_on hb h.c0, cell_on hb h.c1⟩
theorem FAt.on {w w' : World} {b o : Nat} {v : FV} (hb : Below w.heap.size w w') (h : FAt w b o v) : FAt w' b o v := ⟨cell_on hb h.c0, cell_on hb h.c1, cell_on hb h.c2, cell_on hb h.c3, cell_on hb h.c4⟩

def Row {α : Type} (z : Nat) (p : World → Nat → Nat → α → Prop) (w : World) (s : Sl) (f : Nat → α) : Prop :=
 s.n ≤ s.c ∧ s.n ≤ 140737488355328 ∧ (s.a = none → s.c = 0) ∧ (0 < s.n → ∃ b off, s.a = some ⟨b, off, none⟩ ∧ ∀ i, i < s.n → p w b (off + i * z) (f i))

theorem Row.on {α : Type} {z : Nat} {p : World → Nat → Nat → α → Prop} {w w' : World} {s : Sl} {f : Nat → α} (hp : ∀ b o v, p w b o v → p w' b o v) (h : Row z p w s f) : Row z p w' s f :=
 ⟨h.1, h.2.1, h.2.2.1, fun h0 => by
  obtain ⟨b, off, ha, hc⟩ := h.2.2.2 h0
  exact ⟨b, off, ha, fun i hi => hp _ _ _ (hc i hi)⟩⟩

theorem Row.at {α : Type} {z : Nat} {p : World → Nat → Nat → α → Prop} {w : World} {s : Sl} {f : Nat → α} (h : Row z p w s f) {T e : Nat} (hT : Tryz.prog.underlying T = some (.slice e)) (hz : (Tryz.prog.info? e).map (fun i => i.size) = some z) {k : Nat} (hk : k < s.n) :
  ∃ b o, (∀ wx, (Instr.indexAt T (.slice s.a s.n s.c) (.int .i64 k)).run Tryz.prog wx = .ok (.pointer (some ⟨b, o, none⟩)) wx) ∧ p w b o (f k) := by
 obtain ⟨b, off, ha, hc⟩ := h.2.2.2 (by omega)
 exact ⟨b, off + k * z, index_row ha hT hz hk, hc k hk⟩

theorem underlying22 : Tryz.prog.underlying 22 = some (.slice 65) := by kernel_rfl
theorem underlying23 : Tryz.prog.underlying 23 = some (.slice 47) := by kernel_rfl
theorem underlying24 : Tryz.prog.underlying 24 = some (.slice 49) := by kernel_rfl
theorem underlying25 : Tryz.prog.underlying 25 = some (.slice 36) := by kernel_rfl
theorem underlying45 : Tryz.prog.underlying 45 = some (.slice 2) := by kernel_rfl
theorem size65 : (Tryz.prog.info? 65).map (fun i => i.size) = some 3 := by kernel_rfl
theorem size47 : (Tryz.prog.info? 47).map (fun i => i.size) = some 2 := by kernel_rfl
theorem size49 : (Tryz.prog.info? 49).map (fun i => i.size) = some 2 := by kernel_rfl
theorem size36 : (Tryz.prog.info? 36).map (fun i => i.size) = some 5 := by kernel_rfl
theorem size2 : (Tryz.prog.info? 2).map (fun i => i.size) = some 1 := by kernel_rfl

structure InM (w : World) (M : MV) : Prop where
 ext : Row 3 EAt w M.ext M.E
 extP : ∀ i, i < M.ext.n → Ints w (M.E i).par (M.EP i)
 glo : Row 2 GAt w M.glo M.G
 gloC : ∀ i, i < M.glo.n → Ints w (M.G i).cel (M.GC i)
 tab : Row 2 GAt w M.tab M.T
 tabF : ∀ i, i < M.tab.n → Ints w (M.T i).cel (M.TF i)
 fns : Row 5 FAt w M.fns M.F
 fnI : ∀ k, k < M.fns.n → In w (M.F k)

theorem InM.on {w w' : World} {M : MV} (hb : Below w.heap.size w w') (h : InM w M) : InM w' M :=
 ⟨h.ext.on (fun _ _ _ => EAt.on hb), fun i hi => (h.extP i hi).on hb, h.glo.on (fun _ _ _ => GAt.on hb), fun i hi => (h.gloC i hi).on hb, h.tab.on (fun _ _ _ => GAt.on hb), fun i hi => (h.tabF i hi).on hb, h.fns.on (fun _ _ _ => FAt.on hb), fun k hk => (h.fnI k hk).on hb⟩

structure FitsM (M : MV) : Prop where
 ext : ∀ i, i < M.ext.n → W64 (M.E i).res ∧ ∀ k, k < (M.E i).par.n → W64 (M.EP i k)
 glo : ∀ i, i < M.glo.n → ∀ k, k < (M.G i).cel.n → W64 (M.GC i k)
 tab : ∀ i, i < M.tab.n → ∀ k, k < (M.T i).cel.n → W64 (M.TF i k)
 fns : ∀ k, k < M.fns.n → Fits (M.F k)

variable {H : Type} {enc : TypeId × Value → H} {w : World}

instance : Inhabited EV := ⟨⟨ByteArray.empty, ⟨none, 0, 0⟩, 0⟩⟩
instance : Inhabited GV := ⟨⟨ByteArray.empty, ⟨none, 0, 0⟩⟩⟩
instance : Inhabited FV := ⟨fzero⟩

theorem bytes2 : Tryz.prog.bytesOf 2 = 8 := by kernel_rfl

theorem open_ints64 {fuel : Nat} {cs : List Value} {x : DataW H × List MemPlace} (h : rd enc w fuel 45 cs = some x) (hw : Lgt 45 x.1) :
  ∃ (s : Sl) (f : Nat → Int), cs = [.slice s.a s.n s.c] ∧ Ints w s f ∧ ∀ i, i < s.n → W64 (f i) := by
 obtain ⟨s, n, b, off, D, Pl, rfl, h1, h2, h3, h4, h5⟩ := open_row underlying45 cells2 (by decide) bytes2 (by decide) h hw
 obtain ⟨f, hf⟩ := choose_lt (α := Int) (n := s.n) (p := fun i v => w.cell? ⟨b, off + i, none⟩ = some (.int .i64 v) ∧ W64 v) (fun i hi => by
  obtain ⟨cs', c1, c2, c3, _⟩ := h5 i hi
  obtain ⟨v, rfl, _, hwf⟩ := DataW.trod_int underlying2 c3
  have := c2 0 (by decide)
  exact ⟨v, by simpa using this, w64_of hwf⟩)
 exact ⟨s, f, rfl, ⟨h1, h2, h3, fun h0 => ⟨b, off, h4 h0, fun i hi => (hf i hi).1⟩⟩, fun i hi => (hf i hi).2⟩

theorem len2 {α : Type} {l : List α} (h : l.length = 2) : ∃ a b, l = [a, b] := by
 match l, h with | [a, b], _ => exact ⟨a, b, rfl⟩
theorem len3 {α : Type} {l : List α} (h : l.length = 3) : ∃ a b c, l = [a, b, c] := by
 match l, h with | [a, b, c], _ => exact ⟨a, b, c, rfl⟩
theorem len4 {α : Type} {l : List α} (h : l.length = 4) : ∃ a b c d, l = [a, b, c, d] := by
 match l, h with | [a, b, c, d], _ => exact ⟨a, b, c, d, rfl⟩

theorem cells65 : Tryz.prog.cellsOf 65 = 3 := by kernel_rfl
theorem cells47 : Tryz.prog.cellsOf 47 = 2 := by kernel_rfl
theorem cells49 : Tryz.prog.cellsOf 49 = 2 := by kernel_rfl
theorem cells45 : Tryz.prog.cellsOf 45 = 1 := by kernel_rfl
theorem cells27 : Tryz.prog.cellsOf 27 = 4 := by kernel_rfl
theorem cells22 : Tryz.prog.cellsOf 22 = 1 := by kernel_rfl
theorem cells23 : Tryz.prog.cellsOf 23 = 1 := by kernel_rfl
theorem cells24 : Tryz.prog.cellsOf 24 = 1 := by kernel_rfl
theorem cells25 : Tryz.prog.cellsOf 25 = 1 := by kernel_rfl
theorem bytes65 : Tryz.prog.bytesOf 65 = 48 := by kernel_rfl
theorem bytes47 : Tryz.prog.bytesOf 47 = 40 := by kernel_rfl
theorem bytes49 : Tryz.prog.bytesOf 49 = 40 := by kernel_rfl
theorem bytes36 : Tryz.prog.bytesOf 36 = 80 := by kernel_rfl

theorem open_ext {fuel : Nat} {cs : List Value} {x : DataW H × List MemPlace} (h : rd enc w fuel 65 cs = some x) (hw : Lgt 65 x.1) :
  ∃ (v : EV) (f : Nat → Int), cs = [.string v.name, .slice v.par.a v.par.n v.par.c, .int .i64 v.res] ∧ Ints w v.par f ∧ W64 v.res ∧ ∀ i, i < v.par.n → W64 (f i) := by
 obtain ⟨xs, n, _, rfl, hl, hx, hf⟩ := DataW.trod_struct Tryz.underlying65 h
 rw [cells65] at hl
 obtain ⟨c0, c1, c2, rfl⟩ := len3 hl
 obtain ⟨y0, y1, y2, rfl⟩ := len3 (show xs.length = 3 from hx)
 have f0 := hf 0 _ rfl
 have f1 := hf 1 _ rfl
 have f2 := hf 2 _ rfl
 have w1 : Lgt 33 y1.1 := Lgt.part Tryz.underlying65 hw (i := 1) rfl rfl
 simp [cells3, cells9, cells33] at f0 f1 f2
 obtain ⟨nm, e0, _, b0⟩ := DataW.trod_string Tryz.underlying9 f0
 obtain ⟨sp, P, e1, i1, b1⟩ := open_intsV f1 w1
 obtain ⟨re, e2, _, b2⟩ := DataW.trod_int underlying3 f2
 simp at e0 e1 e2
 subst e0 e1 e2
 exact ⟨⟨nm, sp, re⟩, P, rfl, i1, w64_of b2, b1⟩

theorem open_glo {fuel : Nat} {cs : List Value} {x : DataW H × List MemPlace} (h : rd enc w fuel 47 cs = some x) (hw : Lgt 47 x.1) :
  ∃ (v : GV) (f : Nat → Int), cs = [.string v.name, .slice v.cel.a v.cel.n v.cel.c] ∧ Ints w v.cel f ∧ ∀ i, i < v.cel.n → W64 (f i) := by
 obtain ⟨xs, n, _, rfl, hl, hx, hf⟩ := DataW.trod_struct Tryz.underlying47 h
 rw [cells47] at hl
 obtain ⟨c0, c1, rfl⟩ := len2 hl
 obtain ⟨y0, y1, rfl⟩ := len2 (show xs.length = 2 from hx)
 have f0 := hf 0 _ rfl
 have f1 := hf 1 _ rfl
 have w1 : Lgt 45 y1.1 := Lgt.part Tryz.underlying47 hw (i := 1) rfl rfl
 simp [cells9, cells45] at f0 f1
 obtain ⟨nm, e0, _, b0⟩ := DataW.trod_string Tryz.underlying9 f0
 obtain ⟨sp, P, e1, i1, b1⟩ := open_ints64 f1 w1
 simp at e0 e1
 subst e0 e1
 exact ⟨⟨nm, sp⟩, P, rfl, i1, b1⟩

theorem open_tab {fuel : Nat} {cs : List Value} {x : DataW H × List MemPlace} (h : rd enc w fuel 49 cs = some x) (hw : Lgt 49 x.1) :
  ∃ (v : GV) (f : Nat → Int), cs = [.string v.name, .slice v.cel.a v.cel.n v.cel.c] ∧ Ints w v.cel f ∧ ∀ i, i < v.cel.n → W64 (f i) := by
 obtain ⟨xs, n, _, rfl, hl, hx, hf⟩ := DataW.trod_struct Tryz.underlying49 h
 rw [cells49] at hl
 obtain ⟨c0, c1, rfl⟩ := len2 hl
 obtain ⟨y0, y1, rfl⟩ := len2 (show xs.length = 2 from hx)
 have f0 := hf 0 _ rfl
 have f1 := hf 1 _ rfl
 have w1 : Lgt 33 y1.1 := Lgt.part Tryz.underlying49 hw (i := 1) rfl rfl
 simp [cells9, cells33] at f0 f1
 obtain ⟨nm, e0, _, b0⟩ := DataW.trod_string Tryz.underlying9 f0
 obtain ⟨sp, P, e1, i1, b1⟩ := open_intsV f1 w1
 simp at e0 e1
 subst e0 e1
 exact ⟨⟨nm, sp⟩, P, rfl, i1, b1⟩

theorem open_mod {fuel : Nat} {cs : List Value} {x : DataW H × List MemPlace} (h : rd enc w fuel 27 cs = some x) (hw : Lgt 27 x.1) :
  ∃ M : MV, cs = [.slice M.ext.a M.ext.n M.ext.c, .slice M.glo.a M.glo.n M.glo.c, .slice M.tab.a M.tab.n M.tab.c, .slice M.fns.a M.fns.n M.fns.c] ∧ InM w M ∧ FitsM M := by
 obtain ⟨xs, n, _, rfl, hl, hx, hf⟩ := DataW.trod_struct Tryz.underlying27 h
 rw [cells27] at hl
 obtain ⟨c0, c1, c2, c3, rfl⟩ := len4 hl
 obtain ⟨y0, y1, y2, y3, rfl⟩ := len4 (show xs.length = 4 from hx)
 have f0 := hf 0 _ rfl
 have f1 := hf 1 _ rfl
 have f2 := hf 2 _ rfl
 have f3 := hf 3 _ rfl
 have w0 : Lgt 22 y0.1 := Lgt.part Tryz.underlying27 hw (i := 0) rfl rfl
 have w1 : Lgt 23 y1.1 := Lgt.part Tryz.underlying27 hw (i := 1) rfl rfl
 have w2 : Lgt 24 y2.1 := Lgt.part Tryz.underlying27 hw (i := 2) rfl rfl
 have w3 : Lgt 25 y3.1 := Lgt.part Tryz.underlying27 hw (i := 3) rfl rfl
 simp [cells22, cells23, cells24, cells25] at f0 f1 f2 f3
 obtain ⟨se, ne, be, oe, De, Ple, e0, a1, a2, a3, a4, a5⟩ := open_row underlying22 cells65 (by decide) bytes65 (by decide) f0 w0
 obtain ⟨sg, ng, bg, og, Dg, Plg, e1, g1, g2, g3, g4, g5⟩ := open_row underlying23 cells47 (by decide) bytes47 (by decide) f1 w1
 obtain ⟨st, nt, bt, ot, Dt, Plt, e2, t1, t2, t3, t4, t5⟩ := open_row underlying24 cells49 (by decide) bytes49 (by decide) f2 w2
 obtain ⟨sf, nf, bf, of_, Df, Plf, e3, k1, k2, k3, k4, k5⟩ := open_row underlying25 cells36 (by decide) bytes36 (by decide) f3 w3
 simp at e0 e1 e2 e3
 subst e0 e1 e2 e3
 obtain ⟨fe, he⟩ := choose_lt (α := EV × (Nat → Int)) (n := se.n) (p := fun i v => EAt w be (oe + i * 3) v.1 ∧ Ints w v.1.par v.2 ∧ W64 v.1.res ∧ ∀ k, k < v.1.par.n → W64 (v.2 k)) (fun i hi => by
  obtain ⟨cs', c1, c2, c3, c4⟩ := a5 i hi
  obtain ⟨v, f, rfl, hr⟩ := open_ext c3 c4
  exact ⟨(v, f), ⟨by simpa using c2 0 (by decide), c2 1 (by decide), c2 2 (by decide)⟩, hr⟩)
 obtain ⟨fg, hg⟩ := choose_lt (α := GV × (Nat → Int)) (n := sg.n) (p := fun i v => GAt w bg (og + i * 2) v.1 ∧ Ints w v.1.cel v.2 ∧ ∀ k, k < v.1.cel.n → W64 (v.2 k)) (fun i hi => by
  obtain ⟨cs', c1, c2, c3, c4⟩ := g5 i hi
  obtain ⟨v, f, rfl, hr⟩ := open_glo c3 c4
  exact ⟨(v, f), ⟨by simpa using c2 0 (by decide), c2 1 (by decide)⟩, hr⟩)
 obtain ⟨ft, ht⟩ := choose_lt (α := GV × (Nat → Int)) (n := st.n) (p := fun i v => GAt w bt (ot + i * 2) v.1 ∧ Ints w v.1.cel v.2 ∧ ∀ k, k < v.1.cel.n → W64 (v.2 k)) (fun i hi => by
  obtain ⟨cs', c1, c2, c3, c4⟩ := t5 i hi
  obtain ⟨v, f, rfl, hr⟩ := open_tab c3 c4
  exact ⟨(v, f), ⟨by simpa using c2 0 (by decide), c2 1 (by decide)⟩, hr⟩)
 obtain ⟨ff, hff⟩ := choose_lt (α := FV) (n := sf.n) (p := fun i v => FAt w bf (of_ + i * 5) v ∧ In w v ∧ Fits v) (fun i hi => by
  obtain ⟨cs', c1, c2, c3, c4⟩ := k5 i hi
  obtain ⟨v, rfl, h1, h2, _⟩ := open_func c3 c4
  exact ⟨v, ⟨by simpa using c2 0 (by decide), c2 1 (by decide), c2 2 (by decide), c2 3 (by decide), c2 4 (by decide)⟩, h1, h2⟩)
 exact ⟨⟨se, sg, st, sf, fun i => (fe i).1, fun i => (fe i).2, fun i => (fg i).1, fun i => (fg i).2, fun i => (ft i).1, fun i => (ft i).2, ff⟩, rfl,
  ⟨⟨a1, a2, a3, fun h0 => ⟨be, oe, a4 h0, fun i hi => (he i hi).1⟩⟩, fun i hi => (he i hi).2.1, ⟨g1, g2, g3, fun h0 => ⟨bg, og, g4 h0, fun i hi => (hg i hi).1⟩⟩, fun i hi => (hg i hi).2.1, ⟨t1, t2, t3, fun h0 => ⟨bt, ot, t4 h0, fun i hi => (ht i hi).1⟩⟩, fun i hi => (ht i hi).2.1, ⟨k1, k2, k3, fun h0 => ⟨bf, of_, k4 h0, fun i hi => (hff i hi).1⟩⟩, fun i hi => (hff i hi).2.1⟩,
  ⟨fun i hi => (he i hi).2.2, fun i hi => (hg i hi).2.2, fun i hi => (ht i hi).2.2, fun i hi => (hff i hi).2.2⟩⟩

end Go.Proofs.YtolipafcoolpgaaGreat.Mod

/-
  ir.renumber and ir.Neat: what they leave.
-/
namespace Go.Proofs.YtolipafcoolpgaaGreat.Own
open Go.RowKit View Rd Copy Srt Num

set_option linter.unusedVariables false

theorem InsAt.off {w : World} {b o : Nat} {v : IV} (h : InsAt w b o v) {o' : Nat} (ho : o' < o ∨ o + 6 < o') (u : Value) : InsAt (w.setCell ⟨b, o', none⟩ u) b o v :=
 ⟨cell_other (ne_off (by omega)) h.c0, cell_other (ne_off (by omega)) h.c1, cell_other (ne_off (by omega)) h.c2, cell_other (ne_off (by omega)) h.c3, cell_other (ne_off (by omega)) h.c4, cell_other (ne_off (by omega)) h.c5, cell_other (ne_off (by omega)) h.c6⟩

theorem Own.insAt {base : Nat} {w : World} {F : FV} {at_ : Id → Nat} (h : Own base w F at_) {j k : Nat} (hj : j < F.blk.n) (hk : k < (F.B j).n) :
  InsAt w (at_ (.row j)) (k * 7) (F.I j k) ∧ (∀ wx, (Instr.indexAt 38 (.slice (F.B j).a (F.B j).n (F.B j).c) (.int .i64 k)).run Tryz.prog wx = .ok (.pointer (some ⟨at_ (.row j), k * 7, none⟩)) wx) := by
 have h0 : 0 < (sl F (.row j)).n := by show 0 < (F.B j).n; omega
 have ha := h.adr (.row j) hj h0
 obtain ⟨b, off, ha', hc⟩ := (h.inn.ins j hj).2.2.2 h0
 have e := ha.symm.trans ha'
 simp at e
 obtain ⟨e1, e2⟩ := e
 subst e2
 have := hc k hk
 rw [Nat.zero_add, ← e1] at this
 exact ⟨this, by have := index_row (s := F.B j) ha underlying38 size43 hk; simpa using this⟩

def newTo (F : FV) (j k : Nat) : Int := if (F.I j k).ty = 0 then 0 else ((lastOf F j + giv (F.I j) (k + 1) : Nat) : Int)

def nm (F : FV) (v : Int) : Int := (allMap F F.blk.n v).getD 0

def Ren (F : FV) (b t : Nat) (I : Nat → Nat → IV) (A : Nat → Nat → Nat → Int) : Prop :=
 ∀ j, j < F.blk.n → ∀ k, k < (F.B j).n → if j < b ∨ j = b ∧ k < t then I j k = { F.I j k with to := newTo F j k } ∧ A j k = fun i => nm F (F.A j k i) else I j k = F.I j k ∧ A j k = F.A j k

end Go.Proofs.YtolipafcoolpgaaGreat.Own

/-
  The types of a function's values: plnref3.Types, plnref3.Values.
-/
namespace Go.Proofs.YtolipafcoolpgaaGreat.Ty
open Go.RowKit View Rd Copy

set_option linter.unusedVariables false

def tyRow (f : Nat → IV) : Nat → List Int
 | 0 => []
 | k + 1 => tyRow f k ++ if (f k).ty ≠ 0 then [(f k).ty] else []

def tyAll (F : FV) : Nat → List Int
 | 0 => []
 | j + 1 => tyAll F j ++ tyRow (F.I j) (F.B j).n

def typesL (F : FV) : List Int := 0 :: (row F.P F.par.n ++ tyAll F F.blk.n)

def pre (F : FV) (j t : Nat) : List Int := 0 :: (row F.P F.par.n ++ (tyAll F j ++ tyRow (F.I j) t))

theorem pre_next (F : FV) (j : Nat) : pre F j (F.B j).n = pre F (j + 1) 0 := by simp [pre, tyAll, tyRow]
theorem pre_all (F : FV) : pre F F.blk.n 0 = typesL F := by simp [pre, typesL, tyRow]
theorem pre_no (F : FV) (j t : Nat) (h : (F.I j t).ty = 0) : pre F j (t + 1) = pre F j t := by simp [pre, tyRow, h]
theorem pre_yes (F : FV) (j t : Nat) (h : (F.I j t).ty ≠ 0) : pre F j (t + 1) = pre F j t ++ [(F.I j t).ty] := by simp [pre, tyRow, h]

theorem tyRow_length (f : Nat → IV) : ∀ k, (tyRow f k).length = giv f k
 | 0 => rfl
 | k + 1 => by
  rw [tyRow, List.length_append, tyRow_length f k, giv]
  by_cases h : (f k).ty = 0 <;> simp [h]

theorem tyAll_length (F : FV) : ∀ j, (tyAll F j).length = cnt (fun j => giv (F.I j) (F.B j).n) j
 | 0 => rfl
 | j + 1 => by rw [tyAll, List.length_append, tyAll_length F j, tyRow_length, cnt]

theorem pre_length (F : FV) (j t : Nat) : (pre F j t).length = F.par.n + cnt (fun j => giv (F.I j) (F.B j).n) j + giv (F.I j) t + 1 := by
 rw [pre, List.length_cons, List.length_append, List.length_append, row_length, tyAll_length, tyRow_length]; omega

theorem typesL_length (F : FV) : (typesL F).length = F.par.n + cnt (fun j => giv (F.I j) (F.B j).n) F.blk.n + 1 := by
 rw [typesL, List.length_cons, List.length_append, row_length, tyAll_length]

theorem append_one {ops : Array Oper} {rest : List Oper} {o : Oper} {a : Act} {Q : Exit → Act → World → Prop} {w : World} (hgd : o.guard = none) (s x : Operand)
  (ho : o.op = .call { callee := .builtin .append, args := #[s, x], argTypes := #[33, 33] })
  (base : Nat) (v : Value) (xs : List Int) (hs : a.eval s = v) (y : Int) (hown : w.ownsRow base 3 1 v xs.length (xs.map (Value.int .i64)))
  (hx : a.eval x = .slice (some ⟨w.heap.size, 0, none⟩) 1 1)
  (hsm : xs.length ≤ 1000000) (hbase : base ≤ w.heap.size)
  (h : ∀ v' w', w'.ownsRow base 3 1 v' (xs ++ [y]).length ((xs ++ [y]).map (Value.int .i64)) → (w.alloc (.cells #[.int .i64 y] 3)).grownBy w' v.ownBlock → wpList Tryz.prog ops Q rest (a.put o.dst v') w') : wpList Tryz.prog ops Q (o :: rest) a (w.alloc (.cells #[.int .i64 y] 3)) := by
 obtain ⟨i0, hi, hz0, hz1, hz2⟩ := info_parts info3
 refine wpList_append_own _ hgd s x 33 ho base 3 i0 (.int .i64 0) 1 8 underlying33 hi hz0 hz1 hz2 rfl (by decide) v _ _ hs (hown.alloc _) ⟨w.heap.size, 0, none⟩ 1 1 [.int .i64 y] hx rfl (cell_one_new _ _ _) (by intro u hu; simp at hu; subst hu; rfl) (by simp only [maxLen]; omega) (by omega) (by simp; omega) ?_
 intro v' w' h1 h2 _
 exact h v' w' (by simpa using h1) h2

def Lists (L : List Int) (w : World) (e : Ending) (w' : World) : Prop :=
 ∃ s : Sl, e = .returned (.slice s.a s.n s.c) ∧ s.n = L.length ∧ Ints w' s (fun i => L.getD i 0) ∧ Mine w.heap.size w'.heap.size w' s ∧ Below w.heap.size w w'

theorem FuncAt.grown {w w' : World} {b : Nat} {F : FV} {r : Option Nat} (h : FuncAt w b F) (hg : w.grownBy w' r) (hr : ∀ k, r = some k → b < k) : FuncAt w' b F :=
 h.kept (p := fun k => k < w.heap.size ∧ some k ≠ r) ⟨hg.size, fun k hk => hg.block k hk.1 hk.2⟩ ⟨World.block_lt_of_cell? _ _ h.c0, fun e => by have := hr b e.symm; omega⟩

set_option maxHeartbeats 1000000 in
theorem types_ref (F : FV) (w : World) (hF : In w F) (hl : Light F) :
  Calls Tryz.prog 25 #[F.val] w fun e w' => Lists (typesL F) w e w' := by
 have HF := hid hF
 have HL := hid hl
 have gp := hl.par
 have gb := hl.blk
 have GG : Hid (∀ j, j ≤ F.blk.n → cnt (fun j => giv (F.I j) (F.B j).n) j ≤ j * 400) := fun j hj => cnt_le (fun i hi => Nat.le_trans (giv_le _ _) (hl.ins i (by omega)))
 clear hF hl
 go_enter Tryz.func25, Tryz.ntmps25
 have r0 : ((w.alloc (.cells (fcells F) 36)).alloc (.cells #[.int .i64 0] 3)).ownsRow (w.heap.size + 1) 3 1 (.slice (some ⟨w.heap.size + 1, 0, none⟩) 1 1) 1 (([0] : List Int).map (Value.int .i64)) :=
  ⟨rfl, .inr ⟨w.heap.size + 1, 1, #[.int .i64 0], rfl, Nat.le_refl _, by have := heap_alloc_new (w.alloc (.cells (fcells F) 36)) (.cells #[.int .i64 0] 3); simpa using this, Nat.le_refl _, by decide, rfl, rfl⟩⟩
 have R0 := hid r0
 clear r0
 go_wp2_with (at_builtin; refine append_in rfl (.tmp 7) (.tmp 9) rfl (w.heap.size + 1) _ 1 [0] rfl R0.out F.par F.P rfl (HF.out.par.on (new (new (same w) _) _)) (by omega) (by simp) ?_; intro v1 w1 hown1 hgr1)
 have b1 : Below w.heap.size w w1 := (new (new (same w) _) _).grown hgr1 (by simp; omega) (fun k hk => by have := (R0.out.lt k hk).1; omega)
 have f1 : FuncAt w1 w.heap.size F := FuncAt.grown ((FuncAt.alloc w F).on (new (same _) _)) hgr1 (fun k hk => by have := (R0.out.lt k hk).1; omega)
 have e1 : 1 + F.par.n = (pre F 0 0).length := by simp [pre, tyAll, tyRow, row_length]; omega
 have e2 : ([0] : List Int) ++ row F.P F.par.n = pre F 0 0 := by simp [pre, tyAll, tyRow]
 rw [e1, e2] at hown1
 have O1 := hid hown1
 clear e1 e2
 have FB := hid (And.intro f1 b1)
 clear hown1 hgr1 b1 f1 R0
 go_wp2_with fail
 go_loopw [3, 4] (fun v i wr => ∃ j : Nat, j ≤ F.blk.n ∧ i = .int .i64 j ∧ wr.ownsRow (w.heap.size + 1) 3 1 v (pre F j 0).length ((pre F j 0).map (Value.int .i64)) ∧ FuncAt wr w.heap.size F ∧ Below w.heap.size w wr) (fun _ i _ => F.blk.n - (intOf i).toNat)
 case atStart => exact ⟨0, Nat.zero_le _, rfl, O1.out, FB.out.1, FB.out.2⟩
 case round =>
  clear O1 FB
  obtain ⟨j, hj, rfl, hown, hf, hb⟩ := hrel
  have HO := hid hown
  obtain ⟨c0, c1, c2, c3, c4⟩ := hf
  have HFA : Hid (FuncAt wr w.heap.size F) := ⟨c0, c1, c2, c3, c4⟩
  clear hown
  by_cases hlt : j < F.blk.n
  ·have g1 := GG.out j hj
   have g5 := HL.out.ins j hlt
   go_wp2_with fail
   go_loopw [3, 5] (fun v i wx => ∃ t : Nat, t ≤ (F.B j).n ∧ i = .int .i64 t ∧ wx.ownsRow (w.heap.size + 1) 3 1 v (pre F j t).length ((pre F j t).map (Value.int .i64)) ∧ FuncAt wx w.heap.size F ∧ Below w.heap.size w wx) (fun _ i _ => (F.B j).n - (intOf i).toNat)
   case atStart => exact ⟨0, Nat.zero_le _, rfl, HO.out, HFA.out, hb⟩
   case round =>
    clear HO HFA hb c0 c1 c2 c3 c4
    obtain ⟨t, ht, rfl, hown, hf, hb⟩ := hrel
    have HO := hid hown
    obtain ⟨c0, c1, c2, c3, c4⟩ := hf
    have HFA : Hid (FuncAt wr w.heap.size F) := ⟨c0, c1, c2, c3, c4⟩
    obtain ⟨b2, o2, hix2, hck⟩ := (HF.out.blk.on hb).at hlt
    clear hown
    by_cases htl : t < (F.B j).n
    ·obtain ⟨ib, io, hiy, i0, i1, i2, i3, i4, i5, i6⟩ := ((HF.out.ins j hlt).on hb).at htl
     have hsz := hb.size
     have hwl : w.heap.size < wr.heap.size := World.block_lt_of_cell? _ _ c0
     have hlen : (pre F j t).length ≤ 1000000 := by rw [pre_length]; have := giv_le (F.I j) t; omega
     by_cases hty : (F.I j t).ty = 0
     ·have t1 : ((F.I j t).ty != 0) = false := by simp [hty]
      go_wp2_with fail
      go_round
      case rel => exact ⟨t + 1, by omega, by go_num, by rw [pre_no F j t hty]; exact HO.out, HFA.out, hb⟩
      case measure => simp [intOf]; omega
     ·have t1 : ((F.I j t).ty != 0) = true := by simp [hty]
      have HTY := hid hty
      clear hty
      obtain ⟨X, hX⟩ : ∃ X, pre F j t = X := ⟨_, rfl⟩
      rw [hX] at hlen HO
      have HX := hid hX
      clear hX
      go_wp2_with (at_builtin; refine append_one rfl (.tmp 41) (.tmp 43) rfl (w.heap.size + 1) _ X rfl (F.I j t).ty HO.out rfl hlen (by omega) ?_; intro v2 w2 hown2 hgr2)
      have b2 : Below w.heap.size w w2 := (new hb _).grown hgr2 (by simp; omega) (fun k hk => by have := (HO.out.lt k hk).1; omega)
      have f2 : FuncAt w2 w.heap.size F := FuncAt.grown (HFA.out.on (new (same _) _)) hgr2 (fun k hk => by have := (HO.out.lt k hk).1; omega)
      have FIN := hid (And.intro hown2 (And.intro f2 b2))
      clear hown2 hgr2 b2 f2
      go_round
      case rel => exact ⟨t + 1, by omega, by go_num, by rw [pre_yes F j t HTY.out, HX.out]; exact FIN.out.1, FIN.out.2.1, FIN.out.2.2⟩
      case measure => simp [intOf]; omega
    ·obtain rfl : t = (F.B j).n := by omega
     go_wp2_with fail
     go_round
     case rel => exact ⟨j + 1, by omega, by go_num, by rw [← pre_next]; exact HO.out, HFA.out, hb⟩
     case measure => simp [intOf]; omega
  ·obtain rfl : j = F.blk.n := by omega
   go_wp2_with fail
   go_ret
   have HO2 := HO.out
   rw [pre_all] at HO2
   obtain ⟨t, ht, hn, hi, hm⟩ := ints_of_owns HO2 (by have := GG.out F.blk.n (Nat.le_refl _); rw [typesL_length]; omega)
   exact ⟨t, by rw [← ht]; rfl, hn, hi, hm.wide (by omega) (Nat.le_refl _), hb⟩

set_option maxHeartbeats 400000 in
theorem values_ref (F : FV) (w : World) (hF : In w F) (hl : Light F) :
  Calls Tryz.prog 11 #[F.val] w fun e w' => e = .returned (.int .i64 (F.par.n + cnt (fun j => giv (F.I j) (F.B j).n) F.blk.n)) ∧ Below w.heap.size w w' := by
 have HT := hid (types_ref F _ (hF.on (new (same w) (.cells (fcells F) 36))) hl)
 have hle : F.par.n + cnt (fun j => giv (F.I j) (F.B j).n) F.blk.n ≤ 10000 := by
  have := giv_all hl
  have := hl.par; have := hl.blk; omega
 clear hF hl
 go_enter Tryz.func11, Tryz.ntmps11
 go_wp2_with fail
 refine HT.out.mono ?_
 rintro e w1 ⟨s, rfl, hn, hi, hm, hb⟩
 rw [typesL_length] at hn
 have HB := hid (more (new (same w) _) hb)
 clear hi hm hb HT
 go_wp2_with fail
 go_ret
 refine ⟨?_, HB.out⟩
 congr 2

end Go.Proofs.YtolipafcoolpgaaGreat.Ty

/-
  Where each value stands, by the document: plnref3.Where.
-/
namespace Go.Proofs.YtolipafcoolpgaaGreat.Chk
open Go.RowKit View Rd Num Opn Copy Ty Srt Go.Proofs.YtolipafcoolpgaaGreat.Mod

set_option linter.unusedVariables false

def idx (F : FV) (b k : Nat) : Nat := lastOf F b + giv (F.I b) (k + 1)

def allV (F : FV) : Nat := F.par.n + cnt (fun j => giv (F.I j) (F.B j).n) F.blk.n

theorem giv_mono (f : Nat → IV) {a b : Nat} (h : a ≤ b) : giv f a ≤ giv f b := by
 induction b with
 | zero => obtain rfl : a = 0 := by omega
           exact Nat.le_refl _
 | succ b ih =>
  by_cases e : a = b + 1
  ·subst e; exact Nat.le_refl _
  ·have := ih (by omega)
   rw [giv]; omega

theorem cnt_mono (n : Nat → Nat) {a b : Nat} (h : a ≤ b) : cnt n a ≤ cnt n b := by
 induction b with
 | zero => obtain rfl : a = 0 := by omega
           exact Nat.le_refl _
 | succ b ih =>
  by_cases e : a = b + 1
  ·subst e; exact Nat.le_refl _
  ·have := ih (by omega)
   rw [cnt]; omega

theorem lastOf_next (F : FV) (b : Nat) : lastOf F (b + 1) = lastOf F b + giv (F.I b) (F.B b).n := by simp only [lastOf, cnt]; omega

theorem lastOf_mono (F : FV) {a b : Nat} (h : a ≤ b) : lastOf F a ≤ lastOf F b := by
 have := cnt_mono (fun j => giv (F.I j) (F.B j).n) h
 simp only [lastOf]; omega

theorem lastOf_par (F : FV) (b : Nat) : F.par.n ≤ lastOf F b := by simp only [lastOf]; omega

theorem lastOf_all (F : FV) : lastOf F F.blk.n = allV F := rfl

theorem idx_par (F : FV) {b k : Nat} (h : (F.I b k).ty ≠ 0) : F.par.n < idx F b k := by
 have := lastOf_par F b
 unfold idx
 rw [giv, if_pos (by simpa using h)]; omega

theorem idx_eq (F : FV) {b k : Nat} (h : (F.I b k).ty ≠ 0) : idx F b k = lastOf F b + giv (F.I b) k + 1 := by
 unfold idx
 rw [giv, if_pos (by simpa using h)]; omega

def Bef (F : FV) (b k b' k' : Nat) : Prop := b' < b ∨ (b' = b ∧ k' < k)

theorem idx_le (F : FV) {b k b' k' : Nat} (hk : k' < (F.B b').n) (h : Bef F b k b' k') : idx F b' k' ≤ lastOf F b + giv (F.I b) k := by
 unfold idx
 rcases h with h | ⟨rfl, h⟩
 ·have h1 := lastOf_mono F (show b' + 1 ≤ b by omega)
  rw [lastOf_next] at h1
  have h2 := giv_mono (F.I b') (show k' + 1 ≤ (F.B b').n by omega)
  omega
 ·have h2 := giv_mono (F.I b') (show k' + 1 ≤ k by omega)
  omega

theorem idx_all (F : FV) {b k : Nat} (hb : b < F.blk.n) (hk : k < (F.B b).n) : idx F b k ≤ allV F := by
 have := idx_le F (b := F.blk.n) (k := 0) hk (.inl hb)
 rw [lastOf_all] at this
 simpa [giv] using this

theorem allV_le {F : FV} (hl : Light F) : allV F ≤ 10000 := by
 have := giv_all hl
 have := hl.par; have := hl.blk; unfold allV; omega

abbrev pairs (bl pl : Nat → Int) : Nat → Value := fun i => .int .i64 (if i % 2 = 0 then bl (i / 2) else pl (i / 2))

structure Wh (F : FV) (w : World) (O : Nat) (bl pl : Nat → Int) (b k : Nat) : Prop where
 row : w.rowIs O 159 ((allV F + 1) * 2) (pairs bl pl)
 par : ∀ n, n ≤ F.par.n → bl n = -1
 val : ∀ b' k', b' < F.blk.n → k' < (F.B b').n → (F.I b' k').ty ≠ 0 → Bef F b k b' k' → bl (idx F b' k') = b' ∧ pl (idx F b' k') = k'

def WhereIs (F : FV) (w : World) (e : Ending) (w' : World) : Prop :=
 ∃ (O : Nat) (bl pl : Nat → Int), e = .returned (.slice (some ⟨O, 0, none⟩) (allV F + 1) (allV F + 1)) ∧ Wh F w' O bl pl F.blk.n 0 ∧ w.heap.size ≤ O ∧ Below w.heap.size w w'

theorem underlying155 : Tryz.prog.underlying 155 = some (.slice 159) := by kernel_rfl
theorem info159 : (Tryz.prog.info? 159).map (fun i => (i.zero, i.size, i.bytes)) = some (some (.agg #[.int .i64 0, .int .i64 0]), 2, 16) := by kernel_rfl
theorem size159 : (Tryz.prog.info? 159).map (fun i => i.size) = some 2 := by kernel_rfl

theorem pair_at {g n x : Nat} (hx : x < n) : ∀ wx, (Instr.indexAt 155 (.slice (some ⟨g, 0, none⟩) n n) (.int .i64 x)).run Tryz.prog wx = .ok (.pointer (some ⟨g, x * 2, none⟩)) wx := by
 have := index_row (s := ⟨some ⟨g, 0, none⟩, n, n⟩) rfl underlying155 size159 hx
 simpa using this

theorem made_pairs (n : Nat) : ∀ i, i < n * 2 → (madeCells #[.int .i64 0, .int .i64 0] (n * 2))[i]? = some (pairs (fun _ => 0) (fun _ => 0) i) := by
 intro i hi
 have h2 : i % 2 = 0 ∨ i % 2 = 1 := by omega
 rcases h2 with h2 | h2 <;> simp [madeCells, hi, pairs, h2]

theorem rowIs_pairs (w : World) (n : Nat) : (w.alloc (.cells (madeCells #[.int .i64 0, .int .i64 0] (n * 2)) 159)).rowIs w.heap.size 159 (n * 2) (pairs (fun _ => 0) (fun _ => 0)) := by
 have := World.rowIs_alloc w (madeCells #[.int .i64 0, .int .i64 0] (n * 2)) 159 (pairs (fun _ => 0) (fun _ => 0)) (by rw [size_madeCells]; exact made_pairs n)
 rw [size_madeCells] at this
 exact this

theorem pairs_set {w : World} {O n : Nat} {bl pl : Nat → Int} (h : w.rowIs O 159 n (pairs bl pl)) (x : Nat) (u v : Int) :
  ((w.setCell ⟨O, x * 2, none⟩ (.int .i64 u)).setCell ⟨O, x * 2 + 1, none⟩ (.int .i64 v)).rowIs O 159 n (pairs (fun i => if i = x then u else bl i) (fun i => if i = x then v else pl i)) := by
 refine ((h.set (x * 2) _).set (x * 2 + 1) _).congr (fun i _ => ?_)
 by_cases h1 : i = x * 2 + 1
 ·subst h1
  have e1 : (x * 2 + 1) % 2 = 1 := by omega
  have e2 : (x * 2 + 1) / 2 = x := by omega
  simp [pairs, e1, e2]
 ·by_cases h2 : i = x * 2
  ·subst h2
   simp [pairs]
  ·simp only [if_neg h1, if_neg h2, pairs]
   by_cases h3 : i % 2 = 0
   ·have : i / 2 ≠ x := by omega
    simp [h3, this]
   ·have : i / 2 ≠ x := by omega
    simp [h3, this]

set_option maxRecDepth 10000 in
set_option maxHeartbeats 1000000 in
theorem where_ref (F : FV) (w : World) (hF : In w F) (hl : Light F) : Calls Tryz.prog 110 #[F.val] w fun e w' => WhereIs F w e w' := by
 have HF := hid hF
 have HL := hid hl
 have gb := hl.blk
 have gp := hl.par
 have gv := allV_le hl
 obtain ⟨i0, hi, hz0, hz1, hz2⟩ := info_parts info159
 have hmk := fun wx => run_make (P := Tryz.prog) wx 155 159 i0 _ underlying155 hi hz0 .i64 .i64 ((allV F : Int) + 1) ((allV F : Int) + 1) (by omega) (by omega) (by rw [hz2]; omega) (by omega)
 have e1 : ((allV F : Int) + 1).toNat = allV F + 1 := by omega
 simp only [e1, hz1] at hmk
 have HV := hid (values_ref F _ (hF.on (new (same w) (.cells (fcells F) 36))) hl)
 clear hF hl e1 hi hz0 hz1 hz2
 go_enter Tryz.func110, Tryz.ntmps110
 go_wp2_with fail
 refine HV.out.mono ?_
 rintro e w1 ⟨rfl, hb1⟩
 have EV := hid (show (F.par.n : Int) + cnt (fun j => giv (F.I j) (F.B j).n) F.blk.n = allV F by unfold allV; omega)
 rw [EV.out]
 have HM := hid hmk
 go_wp2_with fail
 obtain ⟨W, hW⟩ : ∃ W, w1.alloc (.cells (madeCells #[.int .i64 0, .int .i64 0] ((allV F + 1) * 2)) 159) = W := ⟨_, rfl⟩
 obtain ⟨O, hO⟩ : ∃ O, w1.heap.size = O := ⟨_, rfl⟩
 have z1 := hb1.size
 simp only [World.size_alloc] at z1
 have OW := hid (show w.heap.size < O by omega)
 have R0 := hid (show W.rowIs O 159 ((allV F + 1) * 2) (pairs (fun _ => 0) (fun _ => 0)) by rw [← hW, ← hO]; exact rowIs_pairs w1 (allV F + 1))
 have F0 := hid (show FuncAt W w.heap.size F by rw [← hW]; exact ((FuncAt.alloc w F).on hb1).on (new (same _) _))
 have B0 := hid (show Below w.heap.size w W by rw [← hW]; exact new (View.more (new (same w) _) hb1) _)
 simp only [hW, hO]
 clear hW hO hb1 hmk HM HV z1
 have ST := hid (show ∃ bl pl, W.rowIs O 159 ((allV F + 1) * 2) (pairs bl pl) ∧ ∀ n, n < 0 → bl n = -1 from ⟨_, _, R0.out, fun n hn => by omega⟩)
 go_loopw [4] (fun i wr => ∃ v : Nat, v ≤ F.par.n + 1 ∧ i = .int .i64 v ∧ (∃ bl pl, wr.rowIs O 159 ((allV F + 1) * 2) (pairs bl pl) ∧ ∀ n, n < v → bl n = -1) ∧ FuncAt wr w.heap.size F ∧ Below w.heap.size w wr) (fun i _ => F.par.n + 1 - (intOf i).toNat)
 case atStart => exact ⟨0, Nat.zero_le _, rfl, ST.out, F0.out, B0.out⟩
 case round =>
  clear ST F0 B0 R0
  obtain ⟨v, hv, rfl, ⟨bl, pl, hr, hn⟩, hf, hb⟩ := hrel
  have HS := hid (And.intro hr (And.intro hn (And.intro hf hb)))
  obtain ⟨c0, c1, c2, c3, c4⟩ := hf
  clear hn hb
  by_cases lv : v < F.par.n + 1
  ·have hix := pair_at (g := O) (n := allV F + 1) (x := v) (by unfold allV; omega)
   have q1 := hr.cell (i := v * 2) (by unfold allV; omega)
   have q2 := hr.cell (i := v * 2 + 1) (by unfold allV; omega)
   have q3 := hr.frozen (v * 2)
   have q4 := hr.frozen (v * 2 + 1)
   clear hr
   go_wp2_with fail
   have FIN := hid (show (∃ bl pl, ((wr.setCell ⟨O, v * 2, none⟩ (.int .i64 (-1))).setCell ⟨O, v * 2 + 1, none⟩ (.int .i64 (-1))).rowIs O 159 ((allV F + 1) * 2) (pairs bl pl) ∧ ∀ n, n < v + 1 → bl n = -1) ∧ FuncAt ((wr.setCell ⟨O, v * 2, none⟩ (.int .i64 (-1))).setCell ⟨O, v * 2 + 1, none⟩ (.int .i64 (-1))) w.heap.size F ∧ Below w.heap.size w ((wr.setCell ⟨O, v * 2, none⟩ (.int .i64 (-1))).setCell ⟨O, v * 2 + 1, none⟩ (.int .i64 (-1))) from
    ⟨⟨_, _, pairs_set HS.out.1 v (-1) (-1), fun n hn => by
     show (if n = v then (-1 : Int) else bl n) = -1
     by_cases e : n = v
     ·rw [if_pos e]
     ·rw [if_neg e]; exact HS.out.2.1 n (by omega)⟩, HS.out.2.2.1.kept (((Kept.refl (fun b => b ≠ O) wr).setCell (fun h => h rfl) _).setCell (fun h => h rfl) _) (by show w.heap.size ≠ O; have := OW.out; omega), (HS.out.2.2.2.setCell (by show _ ≤ O; have := OW.out; omega) _).setCell (by show _ ≤ O; have := OW.out; omega) _⟩)
   go_round
   case rel => exact ⟨v + 1, by omega, by go_num, FIN.out⟩
   case measure => simp [intOf]; omega
  ·obtain rfl : v = F.par.n + 1 := by omega
   clear hr
   have WS := hid (show Wh F wr O bl pl 0 0 from ⟨HS.out.1, fun n hn => HS.out.2.1 n (by omega), fun b' k' _ _ _ h => by rcases h with h | ⟨_, h⟩ <;> omega⟩)
   go_wp2_with fail
   go_loopw [5, 6] (fun nv i wx => ∃ b : Nat, b ≤ F.blk.n ∧ i = .int .i64 b ∧ nv = .int .i64 (lastOf F b) ∧ (∃ bl pl, Wh F wx O bl pl b 0) ∧ FuncAt wx w.heap.size F ∧ Below w.heap.size w wx) (fun _ i _ => F.blk.n - (intOf i).toNat)
   case atStart => exact ⟨0, Nat.zero_le _, rfl, by simp [lastOf, cnt], ⟨_, _, WS.out⟩, HS.out.2.2.1, HS.out.2.2.2⟩
   case round =>
    clear WS HS c0 c1 c2 c3 c4 lv hv
    obtain ⟨b, hb0, rfl, rfl, ⟨bl, pl, hw⟩, hf, hb⟩ := hrel
    have HS := hid (And.intro hw (And.intro hf hb))
    obtain ⟨c0, c1, c2, c3, c4⟩ := hf
    by_cases lb : b < F.blk.n
    ·obtain ⟨rb, ro, hrx, hrc0⟩ := HF.out.blk.at lb
     have RC := hid hrc0
     have hrc := cell_on hb hrc0
     have gi := HL.out.ins b lb
     obtain ⟨L, hL⟩ : ∃ L, lastOf F b = L := ⟨_, rfl⟩
     have hLa : L ≤ allV F := by rw [← hL, ← lastOf_all]; exact lastOf_mono F hb0
     have EL := hid hL
     rw [hL]
     clear hw hb hrc0 hL
     go_wp2_with fail
     clear c0 c1 c2 c3 c4 hrc
     go_loopw [5, 7] (fun nv i wx => ∃ k : Nat, k ≤ (F.B b).n ∧ i = .int .i64 k ∧ nv = .int .i64 (L + giv (F.I b) k : Nat) ∧ (∃ bl pl, Wh F wx O bl pl b k) ∧ FuncAt wx w.heap.size F ∧ Below w.heap.size w wx) (fun _ i _ => (F.B b).n - (intOf i).toNat)
     case atStart => exact ⟨0, Nat.zero_le _, rfl, by simp [giv], ⟨_, _, HS.out.1⟩, HS.out.2.1, HS.out.2.2⟩
     case round =>
      clear HS
      obtain ⟨k, hk0, rfl, rfl, ⟨bl, pl, hw⟩, hf, hb⟩ := hrel
      have HS := hid (And.intro hw (And.intro hf hb))
      have hrc := cell_on hb RC.out
      obtain ⟨c0, c1, c2, c3, c4⟩ := hf
      by_cases lk : k < (F.B b).n
      ·obtain ⟨ib, io, hiy, i0, i1, i2, i3, i4, i5, i6⟩ := ((HF.out.ins b lb).on hb).at lk
       have hgk := giv_le (F.I b) k
       by_cases hty : (F.I b k).ty = 0
       ·have t1 : ((F.I b k).ty != 0) = false := by simp [hty]
        have HTY := hid hty
        clear hw hb hty
        go_wp2_with fail
        have FIN := hid (show Wh F wr O bl pl b (k + 1) from ⟨HS.out.1.row, HS.out.1.par, fun b' k' h1 h2 h3 h4 => HS.out.1.val b' k' h1 h2 h3 (by
         rcases h4 with h4 | ⟨rfl, h4⟩
         ·exact .inl h4
         ·exact .inr ⟨rfl, by
           by_cases e : k' = k
           ·subst e; exact absurd HTY.out h3
           ·omega⟩)⟩)
        go_round
        case rel => exact ⟨k + 1, by omega, by go_num, by simp [giv, HTY.out], ⟨_, _, FIN.out⟩, HS.out.2.1, HS.out.2.2⟩
        case measure => simp [intOf]; omega
       ·have t1 : ((F.I b k).ty != 0) = true := by simp [hty]
        have hid1 := idx_eq F hty
        rw [EL.out] at hid1
        have hia := idx_all F lb lk
        have HTY := hid hty
        obtain ⟨N, hN⟩ : ∃ N, L + giv (F.I b) k = N := ⟨_, rfl⟩
        rw [hN] at hid1
        have EN := hid hN
        have e2 : ((N : Int)) + 1 = ((N + 1 : Nat) : Int) := by omega
        have hix := pair_at (g := O) (n := allV F + 1) (x := N + 1) (by omega)
        have q1 := hw.row.cell (i := (N + 1) * 2) (by omega)
        have q2 := hw.row.cell (i := (N + 1) * 2 + 1) (by omega)
        have q3 := hw.row.frozen ((N + 1) * 2)
        have q4 := hw.row.frozen ((N + 1) * 2 + 1)
        rw [← e2] at hix
        rw [hN]
        have HID := hid hid1
        have hN2 : N ≤ 10000 := by omega
        clear hw hb hty hN hid1 hia hgk e2
        go_wp2_with fail
        have FIN := hid (show (∃ bl pl, Wh F ((wr.setCell ⟨O, (N + 1) * 2, none⟩ (.int .i64 b)).setCell ⟨O, (N + 1) * 2 + 1, none⟩ (.int .i64 k)) O bl pl b (k + 1)) ∧ FuncAt ((wr.setCell ⟨O, (N + 1) * 2, none⟩ (.int .i64 b)).setCell ⟨O, (N + 1) * 2 + 1, none⟩ (.int .i64 k)) w.heap.size F ∧ Below w.heap.size w ((wr.setCell ⟨O, (N + 1) * 2, none⟩ (.int .i64 b)).setCell ⟨O, (N + 1) * 2 + 1, none⟩ (.int .i64 k)) from
         ⟨⟨_, _, ⟨pairs_set HS.out.1.row (N + 1) b k, fun n hn => by
          show (if n = N + 1 then (b : Int) else bl n) = -1
          rw [if_neg (by have := idx_par F HTY.out; have := HID.out; omega)]; exact HS.out.1.par n hn, fun b' k' h1 h2 h3 h4 => by
          show (if idx F b' k' = N + 1 then (b : Int) else bl (idx F b' k')) = b' ∧ (if idx F b' k' = N + 1 then (k : Int) else pl (idx F b' k')) = k'
          by_cases e : b' = b ∧ k' = k
          ·obtain ⟨rfl, rfl⟩ := e
           rw [if_pos HID.out, if_pos HID.out]; exact ⟨rfl, rfl⟩
          ·have h5 : Bef F b k b' k' := by
            rcases h4 with h4 | ⟨h4, h6⟩
            ·exact .inl h4
            ·exact .inr ⟨h4, by omega⟩
           have h6 := idx_le F h2 h5
           rw [EL.out, EN.out] at h6
           rw [if_neg (by omega), if_neg (by omega)]
           exact HS.out.1.val b' k' h1 h2 h3 h5⟩⟩, HS.out.2.1.kept (((Kept.refl (fun b => b ≠ O) wr).setCell (fun h => h rfl) _).setCell (fun h => h rfl) _) (by show w.heap.size ≠ O; have := OW.out; omega), (HS.out.2.2.setCell (by show _ ≤ O; have := OW.out; omega) _).setCell (by show _ ≤ O; have := OW.out; omega) _⟩)
        have GN := hid (show (N : Int) + 1 = ((L + giv (F.I b) (k + 1) : Nat) : Int) by rw [giv, if_pos (by simpa using HTY.out), ← EN.out]; omega)
        go_round
        case rel => exact ⟨k + 1, by omega, by go_num, by rw [← GN.out], FIN.out⟩
        case measure => simp [intOf]; omega
      ·obtain rfl : k = (F.B b).n := by omega
       clear hw hb
       go_wp2_with fail
       have FIN := hid (show (∃ bl pl, Wh F wr O bl pl (b + 1) 0) from ⟨bl, pl, HS.out.1.row, HS.out.1.par, fun b' k' h1 h2 h3 h4 => HS.out.1.val b' k' h1 h2 h3 (by
        rcases h4 with h4 | ⟨h4, h5⟩
        ·by_cases e : b' = b
         ·subst e; exact .inr ⟨rfl, h2⟩
         ·exact .inl (by omega)
        ·omega)⟩)
       have GN := hid (show L + giv (F.I b) (F.B b).n = lastOf F (b + 1) by rw [lastOf_next, EL.out])
       go_round
       case rel =>
        first
         | exact ⟨b + 1, by omega, by go_num, by rw [← GN.out]; try simp, FIN.out, HS.out.2.1, HS.out.2.2⟩
         | ((repeat apply Exists.intro); exact ⟨⟨b + 1, by omega, by go_num, by rw [← GN.out]; try simp, FIN.out, HS.out.2.1, HS.out.2.2⟩, rfl⟩)
       case measure => simp [intOf]; omega
    ·obtain rfl : b = F.blk.n := by omega
     clear hw hb
     go_wp2_with fail
     go_ret
     exact ⟨O, bl, pl, rfl, HS.out.1, Nat.le_of_lt OW.out, HS.out.2.2⟩

end Go.Proofs.YtolipafcoolpgaaGreat.Chk
