/-
  Open, Mod, CopyM, CopyM2: laid together.
-/
import Derived.Test.YtclioagemjpnoaaNum
import Derived.Deep.Slices
import Derived.OpenShut
import Derived.SizedLaws
import Derived.ProofKit
import Derived.Test.YtclioagemjpnoaaLight
import Derived.Test.YtclioagemjpnoaaCopyF
import Derived.Test.YtclioagemjpnoaaNeat
/-
  What a function that comes in as an argument is in memory.
-/
namespace Go.Proofs.Ytclioagemjpnoaa.Opn
open Go.RowKit Go.Deep View Rd Num

set_option linter.unusedVariables false

variable {H : Type} {enc : TypeId × Value → H} {w : World}

noncomputable abbrev rd (enc : TypeId × Value → H) (w : World) (fuel t : Nat) (cs : List Value) : Option (DataW H × List MemPlace) := DataW.trod enc Try.prog w 0 (fun _ => true) true fuel t cs

/-- All that it weighs is within reach. -/
def Lgt (t : Nat) (d : DataW H) : Prop := ∀ n ∈ d.weights Try.prog t, n ≤ reachBytes

theorem weightsAll_mem {P : Program} {e : TypeId} : ∀ {l : List (DataW H)} {d : DataW H}, d ∈ l → ∀ n ∈ d.weights P e, n ∈ DataW.weightsAll P e l
  | x :: l, d, h, n, hn => by
    rw [DataW.weightsAll, List.mem_append]
    rcases List.mem_cons.1 h with rfl | h
    · exact .inl hn
    · exact .inr (weightsAll_mem h n hn)

theorem open_row {T e z by_ fuel : Nat} {cs : List Value} {x : DataW H × List MemPlace} (hT : Try.prog.underlying T = some (.slice e)) (hz : Try.prog.cellsOf e = z) (hz0 : 0 < z) (hby : Try.prog.bytesOf e = by_) (hb0 : 0 < by_)
    (h : rd enc w fuel T cs = some x) (hw : Lgt T x.1) :
    ∃ (s : Sl) (n b off : Nat) (D : Nat → DataW H) (Pl : Nat → List MemPlace), cs = [.slice s.a s.n s.c] ∧ s.n ≤ s.c ∧ s.n ≤ 140737488355328 ∧ (s.a = none → s.c = 0) ∧ (0 < s.n → s.a = some ⟨b, off, none⟩) ∧
      ∀ i, i < s.n → ∃ cs' : List Value, cs'.length = z ∧ (∀ c, c < z → w.cell? ⟨b, off + i * z + c, none⟩ = cs'[c]?) ∧ rd enc w n e cs' = some (D i, Pl i) ∧ Lgt e (D i) := by
  rcases open_slice hT h with ⟨rfl, rfl⟩ | ⟨a, len, cap, m, n, D, Pl, rfl, _, hlc, hcm, hm, rfl, hel⟩
  · exact ⟨⟨none, 0, 0⟩, 0, 0, 0, fun _ => .nil, fun _ => [], rfl, Nat.le_refl _, Nat.zero_le _, fun _ => rfl, fun h => absurd h (by simp), fun i hi => absurd hi (by simp)⟩
  · simp only [if_true] at hm
    subst hm
    rw [hz] at hel
    have hwt : (len + (m - len)) * by_ ≤ reachBytes := by
      have := hw ((len + (m - len)) * Try.prog.bytesOf e) (by simp [DataW.weights, hT])
      rw [hby] at this; exact this
    have hlen : len ≤ 140737488355328 := by
      have h1 : len ≤ (len + (m - len)) * by_ := Nat.le_trans (by omega : len ≤ len + (m - len)) (Nat.le_mul_of_pos_right _ hb0)
      unfold reachBytes at hwt
      omega
    have hD : ∀ i, i < len → Lgt e (D i) := fun i hi k hk => by
      refine hw k ?_
      simp only [DataW.weights, hT, List.mem_cons, List.mem_append]
      exact .inr (.inl (weightsAll_mem (List.mem_map.2 ⟨i, List.mem_range.2 hi, rfl⟩) k hk))
    obtain ⟨b, off, spot⟩ := a
    by_cases h0 : 0 < len
    · have hspot : spot = none := by
        obtain ⟨cs', h1, _⟩ := hel 0 (by omega)
        obtain ⟨_, h2, h3⟩ := World.cells?_some h1
        have h4 := h3 0 hz0
        simp only [Nat.zero_mul, Addr.add, if_true] at h4
        have h5 : 0 < cs'.length := by omega
        rw [List.getElem?_eq_getElem h5] at h4
        simpa using World.cell?_spot h4
      subst hspot
      refine ⟨⟨some ⟨b, off, none⟩, len, m⟩, n, b, off, D, Pl, rfl, hlc, hlen, fun h => by simp at h, fun _ => rfl, fun i hi => ?_⟩
      obtain ⟨cs', h1, h2⟩ := hel i (by simp only at hi; omega)
      obtain ⟨_, h3, h4⟩ := World.cells?_some h1
      exact ⟨cs', h3, fun c hc => by have := h4 c hc; rw [Addr.add_lit, Addr.add_lit] at this; exact this, h2, hD i hi⟩
    · exact ⟨⟨some ⟨b, off, spot⟩, len, m⟩, n, b, off, D, Pl, rfl, hlc, hlen, fun h => by simp at h, fun h => absurd h h0, fun i hi => absurd (Nat.lt_of_le_of_lt (Nat.zero_le _) hi) h0⟩

theorem w64_of {n : Int} (h : (Lit.int .i64 n).wf = true) : W64 n := by
  have := bounds_i64 h
  exact ⟨this.1, this.2⟩

theorem cells3 : Try.prog.cellsOf 3 = 1 := by kernel_rfl
theorem bytes3 : Try.prog.bytesOf 3 = 8 := by kernel_rfl

theorem open_intsV {fuel : Nat} {cs : List Value} {x : DataW H × List MemPlace} (h : rd enc w fuel 32 cs = some x) (hw : Lgt 32 x.1) :
    ∃ (s : Sl) (f : Nat → Int), cs = [.slice s.a s.n s.c] ∧ Ints w s f ∧ ∀ i, i < s.n → W64 (f i) := by
  obtain ⟨s, n, b, off, D, Pl, rfl, h1, h2, h3, h4, h5⟩ := open_row underlying32 cells3 (by decide) bytes3 (by decide) h hw
  obtain ⟨f, hf⟩ := choose_lt (α := Int) (n := s.n) (p := fun i v => w.cell? ⟨b, off + i, none⟩ = some (.int .i64 v) ∧ W64 v) (fun i hi => by
    obtain ⟨cs', c1, c2, c3, _⟩ := h5 i hi
    obtain ⟨v, rfl, _, hwf⟩ := DataW.trod_int underlying3 c3
    have := c2 0 (by decide)
    exact ⟨v, by simpa using this, w64_of hwf⟩)
  exact ⟨s, f, rfl, ⟨h1, h2, h3, fun h0 => ⟨b, off, h4 h0, fun i hi => (hf i hi).1⟩⟩, fun i hi => (hf i hi).2⟩

theorem cells42 : Try.prog.cellsOf 42 = 7 := by kernel_rfl
theorem bytes42 : Try.prog.bytesOf 42 = 88 := by kernel_rfl
theorem cells2 : Try.prog.cellsOf 2 = 1 := by kernel_rfl
theorem cells32 : Try.prog.cellsOf 32 = 1 := by kernel_rfl
theorem underlying2 : Try.prog.underlying 2 = some (.int .i64) := by kernel_rfl

theorem Lgt.part {t : Nat} {fs : Array Field} {parts : List (DataW H)} (hu : Try.prog.underlying t = some (.struct fs)) (h : Lgt t (.agg parts)) {i : Nat} {f : Field} {d : DataW H} (hf : fs.toList[i]? = some f) (hd : parts[i]? = some d) : Lgt f.type d := fun n hn => by
  refine h n ?_
  simp only [DataW.weights, hu]
  exact DataW.weights_mem_each (by rw [List.getElem?_map, hf]; rfl) hd n hn

theorem len1 {α : Type} {l : List α} (h : l.length = 1) : ∃ a, l = [a] := by
  match l, h with | [a], _ => exact ⟨a, rfl⟩
theorem len5 {α : Type} {l : List α} (h : l.length = 5) : ∃ a b c d e, l = [a, b, c, d, e] := by
  match l, h with | [a, b, c, d, e], _ => exact ⟨a, b, c, d, e, rfl⟩
theorem len7 {α : Type} {l : List α} (h : l.length = 7) : ∃ a b c d e f g, l = [a, b, c, d, e, f, g] := by
  match l, h with | [a, b, c, d, e, f, g], _ => exact ⟨a, b, c, d, e, f, g, rfl⟩

/-- One instruction. -/
theorem open_insV {fuel : Nat} {cs : List Value} {x : DataW H × List MemPlace} (h : rd enc w fuel 42 cs = some x) (hw : Lgt 42 x.1) :
    ∃ (v : IV) (a j : Nat → Int), cs = v.cells.toList ∧ Ints w v.args a ∧ Ints w v.into j ∧ W64 v.op ∧ W64 v.ty ∧ W64 v.to ∧ W64 v.sym ∧ W64 v.num ∧ (∀ i, i < v.args.n → W64 (a i)) ∧ ∀ i, i < v.into.n → W64 (j i) := by
  obtain ⟨xs, n, _, rfl, hl, hx, hf⟩ := DataW.trod_struct Try.underlying42 h
  rw [cells42] at hl
  obtain ⟨c0, c1, c2, c3, c4, c5, c6, rfl⟩ := len7 hl
  obtain ⟨y0, y1, y2, y3, y4, y5, y6, rfl⟩ := len7 (show xs.length = 7 from hx)
  have f0 := hf 0 _ rfl
  have f1 := hf 1 _ rfl
  have f2 := hf 2 _ rfl
  have f3 := hf 3 _ rfl
  have f4 := hf 4 _ rfl
  have f5 := hf 5 _ rfl
  have f6 := hf 6 _ rfl
  have w5 : Lgt 32 y5.1 := Lgt.part Try.underlying42 hw (i := 5) rfl rfl
  have w6 : Lgt 32 y6.1 := Lgt.part Try.underlying42 hw (i := 6) rfl rfl
  simp [cells3, cells2, cells32] at f0 f1 f2 f3 f4 f5 f6
  obtain ⟨v0, e0, _, b0⟩ := DataW.trod_int underlying3 f0
  obtain ⟨v1, e1, _, b1⟩ := DataW.trod_int underlying3 f1
  obtain ⟨v2, e2, _, b2⟩ := DataW.trod_int underlying3 f2
  obtain ⟨v3, e3, _, b3⟩ := DataW.trod_int underlying3 f3
  obtain ⟨v4, e4, _, b4⟩ := DataW.trod_int underlying2 f4
  obtain ⟨sa, a, e5, i5, b5⟩ := open_intsV f5 w5
  obtain ⟨si, j, e6, i6, b6⟩ := open_intsV f6 w6
  simp at e0 e1 e2 e3 e4 e5 e6
  subst e0 e1 e2 e3 e4 e5 e6
  exact ⟨⟨v0, v1, v2, v3, v4, sa, si⟩, a, j, rfl, i5, i6, w64_of b0, w64_of b1, w64_of b2, w64_of b3, w64_of b4, b5, b6⟩

instance : Inhabited Sl := ⟨⟨none, 0, 0⟩⟩
instance : Inhabited IV := ⟨IV.zero⟩

/-- A row of instructions. -/
theorem open_inss {fuel : Nat} {cs : List Value} {x : DataW H × List MemPlace} (h : rd enc w fuel 37 cs = some x) (hw : Lgt 37 x.1) :
    ∃ (s : Sl) (I : Nat → IV) (A J : Nat → Nat → Int), cs = [.slice s.a s.n s.c] ∧ Inss w s I ∧ ∀ k, k < s.n → Ints w (I k).args (A k) ∧ Ints w (I k).into (J k) ∧ W64 (I k).op ∧ W64 (I k).ty ∧ W64 (I k).to ∧ W64 (I k).sym ∧ W64 (I k).num ∧ (∀ i, i < (I k).args.n → W64 (A k i)) ∧ ∀ i, i < (I k).into.n → W64 (J k i) := by
  obtain ⟨s, n, b, off, D, Pl, rfl, h1, h2, h3, h4, h5⟩ := open_row underlying37 cells42 (by decide) bytes42 (by decide) h hw
  obtain ⟨f, hf⟩ := choose_lt (α := IV × (Nat → Int) × (Nat → Int)) (n := s.n) (p := fun i v => InsAt w b (off + i * 7) v.1 ∧ Ints w v.1.args v.2.1 ∧ Ints w v.1.into v.2.2 ∧ W64 v.1.op ∧ W64 v.1.ty ∧ W64 v.1.to ∧ W64 v.1.sym ∧ W64 v.1.num ∧ (∀ i, i < v.1.args.n → W64 (v.2.1 i)) ∧ ∀ i, i < v.1.into.n → W64 (v.2.2 i)) (fun i hi => by
    obtain ⟨cs', c1, c2, c3, c4⟩ := h5 i hi
    obtain ⟨v, a, j, rfl, hr⟩ := open_insV c3 c4
    exact ⟨(v, a, j), ⟨by simpa using c2 0 (by decide), c2 1 (by decide), c2 2 (by decide), c2 3 (by decide), c2 4 (by decide), c2 5 (by decide), c2 6 (by decide)⟩, hr⟩)
  exact ⟨s, fun k => (f k).1, fun k => (f k).2.1, fun k => (f k).2.2, rfl, ⟨h1, h2, h3, fun h0 => ⟨b, off, h4 h0, fun i hi => (hf i hi).1⟩⟩, fun k hk => (hf k hk).2⟩

theorem cells39 : Try.prog.cellsOf 39 = 1 := by kernel_rfl
theorem bytes39 : Try.prog.bytesOf 39 = 24 := by kernel_rfl
theorem cells37 : Try.prog.cellsOf 37 = 1 := by kernel_rfl
theorem cells35 : Try.prog.cellsOf 35 = 5 := by kernel_rfl
theorem cells33 : Try.prog.cellsOf 33 = 1 := by kernel_rfl
theorem cells9 : Try.prog.cellsOf 9 = 1 := by kernel_rfl
theorem cells4 : Try.prog.cellsOf 4 = 1 := by kernel_rfl

theorem open_blk {fuel : Nat} {cs : List Value} {x : DataW H × List MemPlace} (h : rd enc w fuel 39 cs = some x) (hw : Lgt 39 x.1) : ∃ n y, rd enc w n 37 cs = some y ∧ Lgt 37 y.1 := by
  obtain ⟨xs, n, _, rfl, hl, hx, hf⟩ := DataW.trod_struct Try.underlying39 h
  rw [cells39] at hl
  obtain ⟨c0, rfl⟩ := len1 hl
  obtain ⟨y0, rfl⟩ := len1 (show xs.length = 1 from hx)
  have f0 := hf 0 _ rfl
  have w0 : Lgt 37 y0.1 := Lgt.part Try.underlying39 hw (i := 0) rfl rfl
  simp [cells37] at f0
  exact ⟨n, y0, f0, w0⟩

/-- All numbers of a function fit. -/
structure Fits (F : FV) : Prop where
  res : W64 F.res
  par : ∀ i, i < F.par.n → W64 (F.P i)
  ins : ∀ j, j < F.blk.n → ∀ k, k < (F.B j).n → W64 (F.I j k).op ∧ W64 (F.I j k).ty ∧ W64 (F.I j k).to ∧ W64 (F.I j k).sym ∧ W64 (F.I j k).num
  args : ∀ j, j < F.blk.n → ∀ k, k < (F.B j).n → ∀ i, i < (F.I j k).args.n → W64 (F.A j k i)
  into : ∀ j, j < F.blk.n → ∀ k, k < (F.B j).n → ∀ i, i < (F.I j k).into.n → W64 (F.J j k i)

theorem Fits.rng {F : FV} (h : Fits F) : Rng F := ⟨fun j hj k hk => (h.ins j hj k hk).2.2.1, h.args⟩

/-- A function. -/
theorem open_func {fuel : Nat} {cs : List Value} {x : DataW H × List MemPlace} (h : rd enc w fuel 35 cs = some x) (hw : Lgt 35 x.1) :
    ∃ F : FV, cs = [.string F.name, .bool F.out, .slice F.par.a F.par.n F.par.c, .int .i64 F.res, .slice F.blk.a F.blk.n F.blk.c] ∧ In w F ∧ Fits F ∧ F.name.size ≤ maxLen := by
  obtain ⟨xs, n, _, rfl, hl, hx, hf⟩ := DataW.trod_struct Try.underlying35 h
  rw [cells35] at hl
  obtain ⟨c0, c1, c2, c3, c4, rfl⟩ := len5 hl
  obtain ⟨y0, y1, y2, y3, y4, rfl⟩ := len5 (show xs.length = 5 from hx)
  have f0 := hf 0 _ rfl
  have f1 := hf 1 _ rfl
  have f2 := hf 2 _ rfl
  have f3 := hf 3 _ rfl
  have f4 := hf 4 _ rfl
  have w2 : Lgt 32 y2.1 := Lgt.part Try.underlying35 hw (i := 2) rfl rfl
  have w4 : Lgt 33 y4.1 := Lgt.part Try.underlying35 hw (i := 4) rfl rfl
  simp [cells3, cells9, cells32, cells33, cells4] at f0 f1 f2 f3 f4
  obtain ⟨nm, e0, _, b0⟩ := DataW.trod_string Try.underlying9 f0
  obtain ⟨ou, e1, _⟩ := DataW.trod_bool Try.underlying4 f1
  obtain ⟨sp, P, e2, i2, b2⟩ := open_intsV f2 w2
  obtain ⟨re, e3, _, b3⟩ := DataW.trod_int underlying3 f3
  obtain ⟨sb, nb, b, off, D, Pl, e4, h1, h2, h3, h4, h5⟩ := open_row underlying33 cells39 (by decide) bytes39 (by decide) f4 w4
  simp at e0 e1 e2 e3 e4
  subst e0 e1 e2 e3 e4
  obtain ⟨f, hf⟩ := choose_lt (α := Sl × (Nat → IV) × (Nat → Nat → Int) × (Nat → Nat → Int)) (n := sb.n) (p := fun i v => w.cell? ⟨b, off + i, none⟩ = some (.slice v.1.a v.1.n v.1.c) ∧ Inss w v.1 v.2.1 ∧ ∀ k, k < v.1.n → Ints w (v.2.1 k).args (v.2.2.1 k) ∧ Ints w (v.2.1 k).into (v.2.2.2 k) ∧ W64 (v.2.1 k).op ∧ W64 (v.2.1 k).ty ∧ W64 (v.2.1 k).to ∧ W64 (v.2.1 k).sym ∧ W64 (v.2.1 k).num ∧ (∀ i, i < (v.2.1 k).args.n → W64 (v.2.2.1 k i)) ∧ ∀ i, i < (v.2.1 k).into.n → W64 (v.2.2.2 k i)) (fun i hi => by
    obtain ⟨cs', c1, c2, c3, c4⟩ := h5 i hi
    obtain ⟨m, y, d1, d2⟩ := open_blk c3 c4
    obtain ⟨s, I, A, J, rfl, hr⟩ := open_inss d1 d2
    exact ⟨(s, I, A, J), by simpa using c2 0 (by decide), hr⟩)
  refine ⟨⟨nm, ou, sp, re, sb, P, fun j => (f j).1, fun j => (f j).2.1, fun j => (f j).2.2.1, fun j => (f j).2.2.2⟩, rfl, ⟨i2, ⟨h1, h2, h3, fun h0 => ⟨b, off, h4 h0, fun i hi => (hf i hi).1⟩⟩, fun j hj => (hf j hj).2.1, fun j hj k hk => ((hf j hj).2.2 k hk).1, fun j hj k hk => ((hf j hj).2.2 k hk).2.1⟩, ⟨w64_of b3, b2, fun j hj k hk => ?_, fun j hj k hk => ?_, fun j hj k hk => ?_⟩, b0⟩
  · obtain ⟨_, _, a1, a2, a3, a4, a5, _⟩ := (hf j hj).2.2 k hk
    exact ⟨a1, a2, a3, a4, a5⟩
  · obtain ⟨_, _, _, _, _, _, _, a, _⟩ := (hf j hj).2.2 k hk
    exact a
  · obtain ⟨_, _, _, _, _, _, _, _, a⟩ := (hf j hj).2.2 k hk
    exact a

end Go.Proofs.Ytclioagemjpnoaa.Opn

/-
  How a module lies in memory: externs, globals, tables, functions.
-/
namespace Go.Proofs.Ytclioagemjpnoaa.Mod
open Go.RowKit Go.Deep View Rd Num Opn Copy

set_option linter.unusedVariables false

/-- An extern as it lies. -/
structure EV where
  name : ByteArray
  par : Sl
  res : Int

/-- A global, a table as they lie. -/
structure GV where
  name : ByteArray
  cel : Sl

structure MV where
  ext : Sl
  glo : Sl
  tab : Sl
  fns : Sl
  E : Nat → EV
  EP : Nat → Nat → Int
  G : Nat → GV
  GC : Nat → Nat → Int
  T : Nat → GV
  TF : Nat → Nat → Int
  F : Nat → FV

abbrev MV.val (M : MV) : Value := .agg #[.slice M.ext.a M.ext.n M.ext.c, .slice M.glo.a M.glo.n M.glo.c, .slice M.tab.a M.tab.n M.tab.c, .slice M.fns.a M.fns.n M.fns.c]

structure EAt (w : World) (b o : Nat) (v : EV) : Prop where
  c0 : w.cell? ⟨b, o, none⟩ = some (.string v.name)
  c1 : w.cell? ⟨b, o + 1, none⟩ = some (.slice v.par.a v.par.n v.par.c)
  c2 : w.cell? ⟨b, o + 2, none⟩ = some (.int .i64 v.res)

structure GAt (w : World) (b o : Nat) (v : GV) : Prop where
  c0 : w.cell? ⟨b, o, none⟩ = some (.string v.name)
  c1 : w.cell? ⟨b, o + 1, none⟩ = some (.slice v.cel.a v.cel.n v.cel.c)

structure FAt (w : World) (b o : Nat) (F : FV) : Prop where
  c0 : w.cell? ⟨b, o, none⟩ = some (.string F.name)
  c1 : w.cell? ⟨b, o + 1, none⟩ = some (.bool F.out)
  c2 : w.cell? ⟨b, o + 2, none⟩ = some (.slice F.par.a F.par.n F.par.c)
  c3 : w.cell? ⟨b, o + 3, none⟩ = some (.int .i64 F.res)
  c4 : w.cell? ⟨b, o + 4, none⟩ = some (.slice F.blk.a F.blk.n F.blk.c)

theorem EAt.on {w w' : World} {b o : Nat} {v : EV} (hb : Below w.heap.size w w') (h : EAt w b o v) : EAt w' b o v := ⟨cell_on hb h.c0, cell_on hb h.c1, cell_on hb h.c2⟩
theorem GAt.on {w w' : World} {b o : Nat} {v : GV} (hb : Below w.heap.size w w') (h : GAt w b o v) : GAt w' b o v := ⟨cell_on hb h.c0, cell_on hb h.c1⟩
theorem FAt.on {w w' : World} {b o : Nat} {v : FV} (hb : Below w.heap.size w w') (h : FAt w b o v) : FAt w' b o v := ⟨cell_on hb h.c0, cell_on hb h.c1, cell_on hb h.c2, cell_on hb h.c3, cell_on hb h.c4⟩

/-- A row of things of z cells each. -/
def Row {α : Type} (z : Nat) (p : World → Nat → Nat → α → Prop) (w : World) (s : Sl) (f : Nat → α) : Prop :=
  s.n ≤ s.c ∧ s.n ≤ 140737488355328 ∧ (s.a = none → s.c = 0) ∧ (0 < s.n → ∃ b off, s.a = some ⟨b, off, none⟩ ∧ ∀ i, i < s.n → p w b (off + i * z) (f i))

theorem Row.on {α : Type} {z : Nat} {p : World → Nat → Nat → α → Prop} {w w' : World} {s : Sl} {f : Nat → α} (hp : ∀ b o v, p w b o v → p w' b o v) (h : Row z p w s f) : Row z p w' s f :=
  ⟨h.1, h.2.1, h.2.2.1, fun h0 => by
    obtain ⟨b, off, ha, hc⟩ := h.2.2.2 h0
    exact ⟨b, off, ha, fun i hi => hp _ _ _ (hc i hi)⟩⟩

theorem Row.at {α : Type} {z : Nat} {p : World → Nat → Nat → α → Prop} {w : World} {s : Sl} {f : Nat → α} (h : Row z p w s f) {T e : Nat} (hT : Try.prog.underlying T = some (.slice e)) (hz : (Try.prog.info? e).map (fun i => i.size) = some z) {k : Nat} (hk : k < s.n) :
    ∃ b o, (∀ wx, (Instr.indexAt T (.slice s.a s.n s.c) (.int .i64 k)).run Try.prog wx = .ok (.pointer (some ⟨b, o, none⟩)) wx) ∧ p w b o (f k) := by
  obtain ⟨b, off, ha, hc⟩ := h.2.2.2 (by omega)
  exact ⟨b, off + k * z, index_row ha hT hz hk, hc k hk⟩

theorem underlying22 : Try.prog.underlying 22 = some (.slice 68) := by kernel_rfl
theorem underlying23 : Try.prog.underlying 23 = some (.slice 71) := by kernel_rfl
theorem underlying24 : Try.prog.underlying 24 = some (.slice 73) := by kernel_rfl
theorem underlying25 : Try.prog.underlying 25 = some (.slice 35) := by kernel_rfl
theorem underlying69 : Try.prog.underlying 69 = some (.slice 2) := by kernel_rfl
theorem size68 : (Try.prog.info? 68).map (fun i => i.size) = some 3 := by kernel_rfl
theorem size71 : (Try.prog.info? 71).map (fun i => i.size) = some 2 := by kernel_rfl
theorem size73 : (Try.prog.info? 73).map (fun i => i.size) = some 2 := by kernel_rfl
theorem size35 : (Try.prog.info? 35).map (fun i => i.size) = some 5 := by kernel_rfl
theorem size2 : (Try.prog.info? 2).map (fun i => i.size) = some 1 := by kernel_rfl

structure InM (w : World) (M : MV) : Prop where
  ext : Row 3 EAt w M.ext M.E
  extP : ∀ i, i < M.ext.n → Ints w (M.E i).par (M.EP i)
  glo : Row 2 GAt w M.glo M.G
  gloC : ∀ i, i < M.glo.n → Ints w (M.G i).cel (M.GC i)
  tab : Row 2 GAt w M.tab M.T
  tabF : ∀ i, i < M.tab.n → Ints w (M.T i).cel (M.TF i)
  fns : Row 5 FAt w M.fns M.F
  fnI : ∀ k, k < M.fns.n → In w (M.F k)

theorem InM.on {w w' : World} {M : MV} (hb : Below w.heap.size w w') (h : InM w M) : InM w' M :=
  ⟨h.ext.on (fun _ _ _ => EAt.on hb), fun i hi => (h.extP i hi).on hb, h.glo.on (fun _ _ _ => GAt.on hb), fun i hi => (h.gloC i hi).on hb, h.tab.on (fun _ _ _ => GAt.on hb), fun i hi => (h.tabF i hi).on hb, h.fns.on (fun _ _ _ => FAt.on hb), fun k hk => (h.fnI k hk).on hb⟩

/-- All numbers of a module fit. -/
structure FitsM (M : MV) : Prop where
  ext : ∀ i, i < M.ext.n → W64 (M.E i).res ∧ ∀ k, k < (M.E i).par.n → W64 (M.EP i k)
  glo : ∀ i, i < M.glo.n → ∀ k, k < (M.G i).cel.n → W64 (M.GC i k)
  tab : ∀ i, i < M.tab.n → ∀ k, k < (M.T i).cel.n → W64 (M.TF i k)
  fns : ∀ k, k < M.fns.n → Fits (M.F k)

variable {H : Type} {enc : TypeId × Value → H} {w : World}

instance : Inhabited EV := ⟨⟨ByteArray.empty, ⟨none, 0, 0⟩, 0⟩⟩
instance : Inhabited GV := ⟨⟨ByteArray.empty, ⟨none, 0, 0⟩⟩⟩
instance : Inhabited FV := ⟨fzero⟩

theorem bytes2 : Try.prog.bytesOf 2 = 8 := by kernel_rfl

theorem open_ints64 {fuel : Nat} {cs : List Value} {x : DataW H × List MemPlace} (h : rd enc w fuel 69 cs = some x) (hw : Lgt 69 x.1) :
    ∃ (s : Sl) (f : Nat → Int), cs = [.slice s.a s.n s.c] ∧ Ints w s f ∧ ∀ i, i < s.n → W64 (f i) := by
  obtain ⟨s, n, b, off, D, Pl, rfl, h1, h2, h3, h4, h5⟩ := open_row underlying69 cells2 (by decide) bytes2 (by decide) h hw
  obtain ⟨f, hf⟩ := choose_lt (α := Int) (n := s.n) (p := fun i v => w.cell? ⟨b, off + i, none⟩ = some (.int .i64 v) ∧ W64 v) (fun i hi => by
    obtain ⟨cs', c1, c2, c3, _⟩ := h5 i hi
    obtain ⟨v, rfl, _, hwf⟩ := DataW.trod_int underlying2 c3
    have := c2 0 (by decide)
    exact ⟨v, by simpa using this, w64_of hwf⟩)
  exact ⟨s, f, rfl, ⟨h1, h2, h3, fun h0 => ⟨b, off, h4 h0, fun i hi => (hf i hi).1⟩⟩, fun i hi => (hf i hi).2⟩

theorem len2 {α : Type} {l : List α} (h : l.length = 2) : ∃ a b, l = [a, b] := by
  match l, h with | [a, b], _ => exact ⟨a, b, rfl⟩
theorem len3 {α : Type} {l : List α} (h : l.length = 3) : ∃ a b c, l = [a, b, c] := by
  match l, h with | [a, b, c], _ => exact ⟨a, b, c, rfl⟩
theorem len4 {α : Type} {l : List α} (h : l.length = 4) : ∃ a b c d, l = [a, b, c, d] := by
  match l, h with | [a, b, c, d], _ => exact ⟨a, b, c, d, rfl⟩

theorem cells68 : Try.prog.cellsOf 68 = 3 := by kernel_rfl
theorem cells71 : Try.prog.cellsOf 71 = 2 := by kernel_rfl
theorem cells73 : Try.prog.cellsOf 73 = 2 := by kernel_rfl
theorem cells69 : Try.prog.cellsOf 69 = 1 := by kernel_rfl
theorem cells27 : Try.prog.cellsOf 27 = 4 := by kernel_rfl
theorem cells22 : Try.prog.cellsOf 22 = 1 := by kernel_rfl
theorem cells23 : Try.prog.cellsOf 23 = 1 := by kernel_rfl
theorem cells24 : Try.prog.cellsOf 24 = 1 := by kernel_rfl
theorem cells25 : Try.prog.cellsOf 25 = 1 := by kernel_rfl
theorem bytes68 : Try.prog.bytesOf 68 = 48 := by kernel_rfl
theorem bytes71 : Try.prog.bytesOf 71 = 40 := by kernel_rfl
theorem bytes73 : Try.prog.bytesOf 73 = 40 := by kernel_rfl
theorem bytes35 : Try.prog.bytesOf 35 = 80 := by kernel_rfl

theorem open_ext {fuel : Nat} {cs : List Value} {x : DataW H × List MemPlace} (h : rd enc w fuel 68 cs = some x) (hw : Lgt 68 x.1) :
    ∃ (v : EV) (f : Nat → Int), cs = [.string v.name, .slice v.par.a v.par.n v.par.c, .int .i64 v.res] ∧ Ints w v.par f ∧ W64 v.res ∧ ∀ i, i < v.par.n → W64 (f i) := by
  obtain ⟨xs, n, _, rfl, hl, hx, hf⟩ := DataW.trod_struct Try.underlying68 h
  rw [cells68] at hl
  obtain ⟨c0, c1, c2, rfl⟩ := len3 hl
  obtain ⟨y0, y1, y2, rfl⟩ := len3 (show xs.length = 3 from hx)
  have f0 := hf 0 _ rfl
  have f1 := hf 1 _ rfl
  have f2 := hf 2 _ rfl
  have w1 : Lgt 32 y1.1 := Lgt.part Try.underlying68 hw (i := 1) rfl rfl
  simp [cells3, cells9, cells32] at f0 f1 f2
  obtain ⟨nm, e0, _, b0⟩ := DataW.trod_string Try.underlying9 f0
  obtain ⟨sp, P, e1, i1, b1⟩ := open_intsV f1 w1
  obtain ⟨re, e2, _, b2⟩ := DataW.trod_int underlying3 f2
  simp at e0 e1 e2
  subst e0 e1 e2
  exact ⟨⟨nm, sp, re⟩, P, rfl, i1, w64_of b2, b1⟩

theorem open_glo {fuel : Nat} {cs : List Value} {x : DataW H × List MemPlace} (h : rd enc w fuel 71 cs = some x) (hw : Lgt 71 x.1) :
    ∃ (v : GV) (f : Nat → Int), cs = [.string v.name, .slice v.cel.a v.cel.n v.cel.c] ∧ Ints w v.cel f ∧ ∀ i, i < v.cel.n → W64 (f i) := by
  obtain ⟨xs, n, _, rfl, hl, hx, hf⟩ := DataW.trod_struct Try.underlying71 h
  rw [cells71] at hl
  obtain ⟨c0, c1, rfl⟩ := len2 hl
  obtain ⟨y0, y1, rfl⟩ := len2 (show xs.length = 2 from hx)
  have f0 := hf 0 _ rfl
  have f1 := hf 1 _ rfl
  have w1 : Lgt 69 y1.1 := Lgt.part Try.underlying71 hw (i := 1) rfl rfl
  simp [cells9, cells69] at f0 f1
  obtain ⟨nm, e0, _, b0⟩ := DataW.trod_string Try.underlying9 f0
  obtain ⟨sp, P, e1, i1, b1⟩ := open_ints64 f1 w1
  simp at e0 e1
  subst e0 e1
  exact ⟨⟨nm, sp⟩, P, rfl, i1, b1⟩

theorem open_tab {fuel : Nat} {cs : List Value} {x : DataW H × List MemPlace} (h : rd enc w fuel 73 cs = some x) (hw : Lgt 73 x.1) :
    ∃ (v : GV) (f : Nat → Int), cs = [.string v.name, .slice v.cel.a v.cel.n v.cel.c] ∧ Ints w v.cel f ∧ ∀ i, i < v.cel.n → W64 (f i) := by
  obtain ⟨xs, n, _, rfl, hl, hx, hf⟩ := DataW.trod_struct Try.underlying73 h
  rw [cells73] at hl
  obtain ⟨c0, c1, rfl⟩ := len2 hl
  obtain ⟨y0, y1, rfl⟩ := len2 (show xs.length = 2 from hx)
  have f0 := hf 0 _ rfl
  have f1 := hf 1 _ rfl
  have w1 : Lgt 32 y1.1 := Lgt.part Try.underlying73 hw (i := 1) rfl rfl
  simp [cells9, cells32] at f0 f1
  obtain ⟨nm, e0, _, b0⟩ := DataW.trod_string Try.underlying9 f0
  obtain ⟨sp, P, e1, i1, b1⟩ := open_intsV f1 w1
  simp at e0 e1
  subst e0 e1
  exact ⟨⟨nm, sp⟩, P, rfl, i1, b1⟩

/-- A module. -/
theorem open_mod {fuel : Nat} {cs : List Value} {x : DataW H × List MemPlace} (h : rd enc w fuel 27 cs = some x) (hw : Lgt 27 x.1) :
    ∃ M : MV, cs = [.slice M.ext.a M.ext.n M.ext.c, .slice M.glo.a M.glo.n M.glo.c, .slice M.tab.a M.tab.n M.tab.c, .slice M.fns.a M.fns.n M.fns.c] ∧ InM w M ∧ FitsM M := by
  obtain ⟨xs, n, _, rfl, hl, hx, hf⟩ := DataW.trod_struct Try.underlying27 h
  rw [cells27] at hl
  obtain ⟨c0, c1, c2, c3, rfl⟩ := len4 hl
  obtain ⟨y0, y1, y2, y3, rfl⟩ := len4 (show xs.length = 4 from hx)
  have f0 := hf 0 _ rfl
  have f1 := hf 1 _ rfl
  have f2 := hf 2 _ rfl
  have f3 := hf 3 _ rfl
  have w0 : Lgt 22 y0.1 := Lgt.part Try.underlying27 hw (i := 0) rfl rfl
  have w1 : Lgt 23 y1.1 := Lgt.part Try.underlying27 hw (i := 1) rfl rfl
  have w2 : Lgt 24 y2.1 := Lgt.part Try.underlying27 hw (i := 2) rfl rfl
  have w3 : Lgt 25 y3.1 := Lgt.part Try.underlying27 hw (i := 3) rfl rfl
  simp [cells22, cells23, cells24, cells25] at f0 f1 f2 f3
  obtain ⟨se, ne, be, oe, De, Ple, e0, a1, a2, a3, a4, a5⟩ := open_row underlying22 cells68 (by decide) bytes68 (by decide) f0 w0
  obtain ⟨sg, ng, bg, og, Dg, Plg, e1, g1, g2, g3, g4, g5⟩ := open_row underlying23 cells71 (by decide) bytes71 (by decide) f1 w1
  obtain ⟨st, nt, bt, ot, Dt, Plt, e2, t1, t2, t3, t4, t5⟩ := open_row underlying24 cells73 (by decide) bytes73 (by decide) f2 w2
  obtain ⟨sf, nf, bf, of_, Df, Plf, e3, k1, k2, k3, k4, k5⟩ := open_row underlying25 cells35 (by decide) bytes35 (by decide) f3 w3
  simp at e0 e1 e2 e3
  subst e0 e1 e2 e3
  obtain ⟨fe, he⟩ := choose_lt (α := EV × (Nat → Int)) (n := se.n) (p := fun i v => EAt w be (oe + i * 3) v.1 ∧ Ints w v.1.par v.2 ∧ W64 v.1.res ∧ ∀ k, k < v.1.par.n → W64 (v.2 k)) (fun i hi => by
    obtain ⟨cs', c1, c2, c3, c4⟩ := a5 i hi
    obtain ⟨v, f, rfl, hr⟩ := open_ext c3 c4
    exact ⟨(v, f), ⟨by simpa using c2 0 (by decide), c2 1 (by decide), c2 2 (by decide)⟩, hr⟩)
  obtain ⟨fg, hg⟩ := choose_lt (α := GV × (Nat → Int)) (n := sg.n) (p := fun i v => GAt w bg (og + i * 2) v.1 ∧ Ints w v.1.cel v.2 ∧ ∀ k, k < v.1.cel.n → W64 (v.2 k)) (fun i hi => by
    obtain ⟨cs', c1, c2, c3, c4⟩ := g5 i hi
    obtain ⟨v, f, rfl, hr⟩ := open_glo c3 c4
    exact ⟨(v, f), ⟨by simpa using c2 0 (by decide), c2 1 (by decide)⟩, hr⟩)
  obtain ⟨ft, ht⟩ := choose_lt (α := GV × (Nat → Int)) (n := st.n) (p := fun i v => GAt w bt (ot + i * 2) v.1 ∧ Ints w v.1.cel v.2 ∧ ∀ k, k < v.1.cel.n → W64 (v.2 k)) (fun i hi => by
    obtain ⟨cs', c1, c2, c3, c4⟩ := t5 i hi
    obtain ⟨v, f, rfl, hr⟩ := open_tab c3 c4
    exact ⟨(v, f), ⟨by simpa using c2 0 (by decide), c2 1 (by decide)⟩, hr⟩)
  obtain ⟨ff, hff⟩ := choose_lt (α := FV) (n := sf.n) (p := fun i v => FAt w bf (of_ + i * 5) v ∧ In w v ∧ Fits v) (fun i hi => by
    obtain ⟨cs', c1, c2, c3, c4⟩ := k5 i hi
    obtain ⟨v, rfl, h1, h2, _⟩ := open_func c3 c4
    exact ⟨v, ⟨by simpa using c2 0 (by decide), c2 1 (by decide), c2 2 (by decide), c2 3 (by decide), c2 4 (by decide)⟩, h1, h2⟩)
  exact ⟨⟨se, sg, st, sf, fun i => (fe i).1, fun i => (fe i).2, fun i => (fg i).1, fun i => (fg i).2, fun i => (ft i).1, fun i => (ft i).2, ff⟩, rfl,
    ⟨⟨a1, a2, a3, fun h0 => ⟨be, oe, a4 h0, fun i hi => (he i hi).1⟩⟩, fun i hi => (he i hi).2.1, ⟨g1, g2, g3, fun h0 => ⟨bg, og, g4 h0, fun i hi => (hg i hi).1⟩⟩, fun i hi => (hg i hi).2.1, ⟨t1, t2, t3, fun h0 => ⟨bt, ot, t4 h0, fun i hi => (ht i hi).1⟩⟩, fun i hi => (ht i hi).2.1, ⟨k1, k2, k3, fun h0 => ⟨bf, of_, k4 h0, fun i hi => (hff i hi).1⟩⟩, fun i hi => (hff i hi).2.1⟩,
    ⟨fun i hi => (he i hi).2.2, fun i hi => (hg i hi).2.2, fun i hi => (ht i hi).2.2, fun i hi => (hff i hi).2.2⟩⟩

end Go.Proofs.Ytclioagemjpnoaa.Mod

/-
  Copies of a module's other parts, in new memory: ir.copyList at int64, copyExtern, copyGlobal, copyTable, copyEach at each.
-/
namespace Go.Proofs.Ytclioagemjpnoaa.CpM
open Go.RowKit View Rd Copy Srt Own Go.Proofs.Ytclioagemjpnoaa.Mod

set_option linter.unusedVariables false

theorem info2 : (Try.prog.info? 2).map (fun i => (i.zero, i.size, i.bytes)) = some (some (.int .i64 0), 1, 8) := by kernel_rfl

theorem ints_of_owns64 {w : World} {base : Nat} {v : Value} {n : Nat} {xs : List Int} (h : w.ownsRow base 2 1 v n (xs.map (Value.int .i64))) (hn : n ≤ 1000000) :
    ∃ s : Sl, v = .slice s.a s.n s.c ∧ s.n = n ∧ Ints w s (fun i => xs.getD i 0) ∧ Mine base w.heap.size w s := by
  obtain ⟨hlen, h⟩ := h
  simp at hlen
  rcases h with ⟨rfl, rfl⟩ | ⟨g, cap, cur, rfl, hb, hg, hnc, hm, hs, ht⟩
  · exact ⟨⟨none, 0, 0⟩, rfl, rfl, ⟨Nat.le_refl _, Nat.zero_le _, fun _ => rfl, fun h => absurd h (by simp)⟩, fun h => absurd h (by simp)⟩
  · have hlt : g < w.heap.size := (Array.getElem?_eq_some_iff.1 hg).1
    refine ⟨⟨some ⟨g, 0, none⟩, n, cap⟩, rfl, rfl, ⟨hnc, by show n ≤ _; omega, fun h => by simp at h, fun h0 => ⟨g, 0, rfl, fun i hi => ?_⟩⟩, fun h0 => ⟨g, rfl, hb, hlt, fun i => ?_⟩⟩
    · rw [Nat.zero_add, cell_of_row w g i cur 2 (0, 0) hg]
      have h1 : (cur.toList.take (n * 1))[i]? = (xs.map (Value.int .i64))[i]? := by rw [ht]
      rw [List.getElem?_take, if_pos (by simpa using hi)] at h1
      simp at h1
      rw [h1]
      have : i < xs.length := by rw [hlen]; exact hi
      simp [List.getD, this]
    · simp [World.frozen?, hg]

theorem append_in64 {ops : Array Oper} {rest : List Oper} {o : Oper} {a : Act} {Q : Exit → Act → World → Prop} {w : World} (hgd : o.guard = none) (s x : Operand)
    (ho : o.op = .call { callee := .builtin .append, args := #[s, x], argTypes := #[69, 69] })
    (base : Nat) (v : Value) (n : Nat) (xs : List Int) (hs : a.eval s = v) (hown : w.ownsRow base 2 1 v n (xs.map (Value.int .i64)))
    (sl : Sl) (f : Nat → Int) (hx : a.eval x = .slice sl.a sl.n sl.c) (hin : Ints w sl f)
    (hsm : n + sl.n ≤ 1000000) (hbase : base ≤ w.heap.size)
    (h : ∀ v' w', w'.ownsRow base 2 1 v' (n + sl.n) ((xs ++ row f sl.n).map (Value.int .i64)) → w.grownBy w' v.ownBlock → wpList Try.prog ops Q rest (a.put o.dst v') w') : wpList Try.prog ops Q (o :: rest) a w := by
  obtain ⟨i0, hi, hz0, hz1, hz2⟩ := info_parts info2
  obtain ⟨ao, m, c⟩ := sl
  cases ao with
  | some ad =>
    refine wpList_append_own w hgd s x 69 ho base 2 i0 (.int .i64 0) 1 8 underlying69 hi hz0 hz1 hz2 rfl (by decide) v n _ hs hown ad m c ((row f m).map (Value.int .i64)) hx (by simp [row_length]) (row_cells hin) (ints_oneCell _ _) (by simp only [maxLen] at *; omega) (by simp only at *; omega) hbase ?_
    intro v' w' h1 h2 _
    exact h v' w' (by rw [List.map_append]; exact h1) h2
  | none =>
    have hc0 := hin.2.2.1 rfl
    have hm0 := hin.1
    simp only at hc0 hm0
    subst hc0
    obtain rfl : m = 0 := by omega
    exact wpList_append_own_none hgd s x 69 ho base 2 i0 1 underlying69 hi v n _ hs hown hx (h v w (by simpa [row] using hown) (World.grownBy.refl _ _))

/-- A thing with one row of numbers, copied: the row is new. -/
def NewRow (n : Nat) (f : Nat → Int) (mk : Sl → Value) (w : World) (e : Ending) (w' : World) : Prop :=
  ∃ t : Sl, e = .returned (mk t) ∧ t.n = n ∧ Ints w' t f ∧ Mine (w.heap.size + 2) w'.heap.size w' t ∧ Below w.heap.size w w'

theorem newRow_fin {n : Nat} {f : Nat → Int} {mk : Sl → Value} {w w1 w2 : World} {t : Sl} (h1 : t.n = n) (hi : Ints w1 t f) (hm : Mine (w.heap.size + 2) w1.heap.size w1 t) (k : Kept (fun k => w.heap.size + 2 ≤ k) w1 w2) (hb : Below w.heap.size w w2) : NewRow n f mk w (.returned (mk t)) w2 :=
  ⟨t, rfl, h1, hi.kept' hm k (fun b h _ => h), (hm.kept k (fun b h _ => h)).wide (Nat.le_refl _) k.size, hb⟩

end Go.Proofs.Ytclioagemjpnoaa.CpM

/-
  Copies of rows of a module's parts, in new memory: ir.copyEach at Extern, Global, Table, Func.
-/
namespace Go.Proofs.Ytclioagemjpnoaa.CpM
open Go.RowKit View Rd Copy Srt Own Go.Proofs.Ytclioagemjpnoaa.Mod

set_option linter.unusedVariables false

/-- Rows of cells, one behind the other. -/
def fl (c : Nat → List Value) : Nat → List Value
  | 0 => []
  | k + 1 => fl c k ++ c k

theorem fl_length {c : Nat → List Value} {z : Nat} (h : ∀ i, (c i).length = z) : ∀ k, (fl c k).length = k * z
  | 0 => by simp [fl]
  | k + 1 => by rw [fl, List.length_append, fl_length h k, h, Nat.succ_mul]

theorem fl_congr {c d : Nat → List Value} : ∀ {k : Nat}, (∀ t, t < k → c t = d t) → fl c k = fl d k
  | 0, _ => rfl
  | k + 1, h => by rw [fl, fl, fl_congr (fun t ht => h t (by omega)), h k (by omega)]

theorem fl_at {c : Nat → List Value} {z : Nat} (h : ∀ i, (c i).length = z) : ∀ k t r, t < k → r < z → (fl c k)[t * z + r]? = (c t)[r]?
  | 0, t, r, ht, _ => by omega
  | k + 1, t, r, ht, hr => by
    rw [fl]
    rcases Nat.lt_or_eq_of_le (Nat.le_of_lt_succ ht) with h' | rfl
    · rw [List.getElem?_append_left (by rw [fl_length h]; have := Nat.mul_le_mul_right z (show t + 1 ≤ k from h'); rw [Nat.succ_mul] at this; omega)]
      exact fl_at h k t r h' hr
    · rw [List.getElem?_append_right (by rw [fl_length h]; omega), fl_length h]
      congr 1
      omega

/-- k of n things were copied into the row at G; each holds (El). -/
structure Each {α : Type} (G T z k n : Nat) (w : World) (cs : Nat → α → List Value) (El : World → Nat → α → Prop) (t : Nat → α) : Prop where
  own : w.ownsRow G T z (.slice (some ⟨G, 0, none⟩) k n) k (fl (fun i => cs i (t i)) k)
  el : ∀ i, i < k → El w i (t i)

theorem Each.step {α : Type} {G T z k n : Nat} {w : World} {cs : Nat → α → List Value} {El : World → Nat → α → Prop} {t : Nat → α} {a : α} (he : ∀ i, i < k → El w i (t i)) (ha : El w k a)
    (own : w.ownsRow G T z (.slice (some ⟨G, 0, none⟩) (k + 1) n) (k + 1) (fl (fun i => cs i (t i)) k ++ cs k a)) : ∃ t, Each G T z (k + 1) n w cs El t := by
  refine ⟨fun i => if i < k then t i else a, ?_, fun i hi => ?_⟩
  · have e : fl (fun i => cs i (if i < k then t i else a)) (k + 1) = fl (fun i => cs i (t i)) k ++ cs k a := by
      rw [fl, fl_congr (d := fun i => cs i (t i)) (fun i hi => by simp [hi])]
      simp
    rw [e]; exact own
  · rcases Nat.lt_or_eq_of_le (Nat.le_of_lt_succ hi) with h | rfl
    · simp only [h, if_true]; exact he i h
    · simp only [Nat.lt_irrefl, if_false]; exact ha

theorem Each.cell {α : Type} {G T z k n : Nat} {w : World} {cs : Nat → α → List Value} {El : World → Nat → α → Prop} {t : Nat → α} (h : Each G T z k n w cs El t) (hz : ∀ i a, (cs i a).length = z) {i r : Nat} (hi : i < k) (hr : r < z) {v : Value} (hv : (cs i (t i))[r]? = some v) : w.cell? ⟨G, i * z + r, none⟩ = some v := by
  have hlt : i * z + r < k * z := by have := Nat.mul_le_mul_right z (show i + 1 ≤ k from hi); rw [Nat.succ_mul] at this; omega
  rw [h.own.cellAt (i * z + r) hlt, fl_at (fun i => hz i _) k i r hi hr, hv]

def NewEach {α : Type} (T z n : Nat) (cs : Nat → α → List Value) (El : Nat → World → Nat → α → Prop) (w : World) (e : Ending) (w' : World) : Prop :=
  e = .returned (.slice (some ⟨w.heap.size, 0, none⟩) n n) ∧ (∃ t, Each w.heap.size T z n n w' cs (El (w.heap.size + 1)) t) ∧ Below w.heap.size w w'

/-- Of a row of numbers that was copied. -/
def ElS (N : Nat → Nat) (C : Nat → Nat → Int) (base : Nat) (w : World) (i : Nat) (t : Sl) : Prop :=
  t.n = N i ∧ Ints w t (C i) ∧ Mine base w.heap.size w t

theorem ElS.on {N : Nat → Nat} {C : Nat → Nat → Int} {base : Nat} {w w' : World} {i : Nat} {t : Sl} (hb : Below w.heap.size w w') (h : ElS N C base w i t) : ElS N C base w' i t :=
  ⟨h.1, h.2.1.on hb, (h.2.2.on hb (Nat.le_refl _)).wide (Nat.le_refl _) hb.size⟩

theorem ElS.grown {N : Nat → Nat} {C : Nat → Nat → Int} {base G : Nat} {w w' : World} {i : Nat} {t : Sl} (h : ElS N C base w i t) (hg : w.grownBy w' (some G)) (hG : G < base) : ElS N C base w' i t :=
  ⟨h.1, h.2.1.kept' h.2.2 (kept_of_grown hg) (fun b h1 h2 => ⟨by omega, h2⟩), (h.2.2.kept (kept_of_grown hg) (fun b h1 h2 => ⟨by omega, h2⟩)).wide (Nat.le_refl _) hg.size⟩

theorem info55c : (Try.prog.info? 68).map (fun i => (i.zero, i.size, i.bytes)) = some (some (.agg #[.string ByteArray.empty, .slice none 0 0, .int .i64 0]), 3, 48) := by kernel_rfl

theorem new_copyEachE_any (w : World) (x0 x1 x2 : Value) (t : TypeId) : ∀ j u, [x0, x1, x2][j]? = some u → (w.alloc (.cells #[x0, x1, x2] t)).cell? ((⟨w.heap.size, 0, none⟩ : Addr).add j) = some u := by
  intro j u hj
  match j, hj with
  | 0, hj => simp at hj; subst hj; simp [Addr.add]
  | 1, hj => simp at hj; subst hj; simp [Addr.add]
  | 2, hj => simp at hj; subst hj; simp [Addr.add]
  | (j + 3), hj => simp at hj

theorem info58c : (Try.prog.info? 71).map (fun i => (i.zero, i.size, i.bytes)) = some (some (.agg #[.string ByteArray.empty, .slice none 0 0]), 2, 40) := by kernel_rfl

theorem new_copyEachG_any (w : World) (x0 x1 : Value) (t : TypeId) : ∀ j u, [x0, x1][j]? = some u → (w.alloc (.cells #[x0, x1] t)).cell? ((⟨w.heap.size, 0, none⟩ : Addr).add j) = some u := by
  intro j u hj
  match j, hj with
  | 0, hj => simp at hj; subst hj; simp [Addr.add]
  | 1, hj => simp at hj; subst hj; simp [Addr.add]
  | (j + 2), hj => simp at hj

theorem info60c : (Try.prog.info? 73).map (fun i => (i.zero, i.size, i.bytes)) = some (some (.agg #[.string ByteArray.empty, .slice none 0 0]), 2, 40) := by kernel_rfl

theorem new_copyEachT_any (w : World) (x0 x1 : Value) (t : TypeId) : ∀ j u, [x0, x1][j]? = some u → (w.alloc (.cells #[x0, x1] t)).cell? ((⟨w.heap.size, 0, none⟩ : Addr).add j) = some u := by
  intro j u hj
  match j, hj with
  | 0, hj => simp at hj; subst hj; simp [Addr.add]
  | 1, hj => simp at hj; subst hj; simp [Addr.add]
  | (j + 2), hj => simp at hj

end Go.Proofs.Ytclioagemjpnoaa.CpM
