/-
  What a function that comes in as an argument is in memory.
-/
import Derived.Test.YtbmfimojhcdnbaaNum
import Derived.Deep.Slices
import Derived.OpenShut
import Derived.SizedLaws
import Derived.ProofKit
namespace Go.Proofs.Ytbmfimojhcdnbaa.Opn
open Go.RowKit Go.Deep View Rd Num

set_option linter.unusedVariables false

variable {H : Type} {enc : TypeId × Value → H} {w : World}

noncomputable abbrev rd (enc : TypeId × Value → H) (w : World) (fuel t : Nat) (cs : List Value) : Option (DataW H × List MemPlace) := DataW.trod enc Try.prog w 0 (fun _ => true) true fuel t cs

/-- All that it weighs is within reach. -/
def Lgt (t : Nat) (d : DataW H) : Prop := ∀ n ∈ d.weights Try.prog t, n ≤ reachBytes

theorem weightsAll_mem {P : Program} {e : TypeId} : ∀ {l : List (DataW H)} {d : DataW H}, d ∈ l → ∀ n ∈ d.weights P e, n ∈ DataW.weightsAll P e l
  | x :: l, d, h, n, hn => by
    rw [DataW.weightsAll, List.mem_append]
    rcases List.mem_cons.1 h with rfl | h
    · exact .inl hn
    · exact .inr (weightsAll_mem h n hn)

theorem open_row {T e z by_ fuel : Nat} {cs : List Value} {x : DataW H × List MemPlace} (hT : Try.prog.underlying T = some (.slice e)) (hz : Try.prog.cellsOf e = z) (hz0 : 0 < z) (hby : Try.prog.bytesOf e = by_) (hb0 : 0 < by_)
    (h : rd enc w fuel T cs = some x) (hw : Lgt T x.1) :
    ∃ (s : Sl) (n b off : Nat) (D : Nat → DataW H) (Pl : Nat → List MemPlace), cs = [.slice s.a s.n s.c] ∧ s.n ≤ s.c ∧ s.n ≤ 140737488355328 ∧ (s.a = none → s.c = 0) ∧ (0 < s.n → s.a = some ⟨b, off, none⟩) ∧
      ∀ i, i < s.n → ∃ cs' : List Value, cs'.length = z ∧ (∀ c, c < z → w.cell? ⟨b, off + i * z + c, none⟩ = cs'[c]?) ∧ rd enc w n e cs' = some (D i, Pl i) ∧ Lgt e (D i) := by
  rcases open_slice hT h with ⟨rfl, rfl⟩ | ⟨a, len, cap, m, n, D, Pl, rfl, _, hlc, hcm, hm, rfl, hel⟩
  · exact ⟨⟨none, 0, 0⟩, 0, 0, 0, fun _ => .nil, fun _ => [], rfl, Nat.le_refl _, Nat.zero_le _, fun _ => rfl, fun h => absurd h (by simp), fun i hi => absurd hi (by simp)⟩
  · simp only [if_true] at hm
    subst hm
    rw [hz] at hel
    have hwt : (len + (m - len)) * by_ ≤ reachBytes := by
      have := hw ((len + (m - len)) * Try.prog.bytesOf e) (by simp [DataW.weights, hT])
      rw [hby] at this; exact this
    have hlen : len ≤ 140737488355328 := by
      have h1 : len ≤ (len + (m - len)) * by_ := Nat.le_trans (by omega : len ≤ len + (m - len)) (Nat.le_mul_of_pos_right _ hb0)
      unfold reachBytes at hwt
      omega
    have hD : ∀ i, i < len → Lgt e (D i) := fun i hi k hk => by
      refine hw k ?_
      simp only [DataW.weights, hT, List.mem_cons, List.mem_append]
      exact .inr (.inl (weightsAll_mem (List.mem_map.2 ⟨i, List.mem_range.2 hi, rfl⟩) k hk))
    obtain ⟨b, off, spot⟩ := a
    by_cases h0 : 0 < len
    · have hspot : spot = none := by
        obtain ⟨cs', h1, _⟩ := hel 0 (by omega)
        obtain ⟨_, h2, h3⟩ := World.cells?_some h1
        have h4 := h3 0 hz0
        simp only [Nat.zero_mul, Addr.add, if_true] at h4
        have h5 : 0 < cs'.length := by omega
        rw [List.getElem?_eq_getElem h5] at h4
        simpa using World.cell?_spot h4
      subst hspot
      refine ⟨⟨some ⟨b, off, none⟩, len, m⟩, n, b, off, D, Pl, rfl, hlc, hlen, fun h => by simp at h, fun _ => rfl, fun i hi => ?_⟩
      obtain ⟨cs', h1, h2⟩ := hel i (by simp only at hi; omega)
      obtain ⟨_, h3, h4⟩ := World.cells?_some h1
      exact ⟨cs', h3, fun c hc => by have := h4 c hc; rw [Addr.add_lit, Addr.add_lit] at this; exact this, h2, hD i hi⟩
    · exact ⟨⟨some ⟨b, off, spot⟩, len, m⟩, n, b, off, D, Pl, rfl, hlc, hlen, fun h => by simp at h, fun h => absurd h h0, fun i hi => absurd (Nat.lt_of_le_of_lt (Nat.zero_le _) hi) h0⟩

theorem w64_of {n : Int} (h : (Lit.int .i64 n).wf = true) : W64 n := by
  have := bounds_i64 h
  exact ⟨this.1, this.2⟩

theorem cells3 : Try.prog.cellsOf 3 = 1 := by kernel_rfl
theorem bytes3 : Try.prog.bytesOf 3 = 8 := by kernel_rfl

theorem open_intsV {fuel : Nat} {cs : List Value} {x : DataW H × List MemPlace} (h : rd enc w fuel 28 cs = some x) (hw : Lgt 28 x.1) :
    ∃ (s : Sl) (f : Nat → Int), cs = [.slice s.a s.n s.c] ∧ Ints w s f ∧ ∀ i, i < s.n → W64 (f i) := by
  obtain ⟨s, n, b, off, D, Pl, rfl, h1, h2, h3, h4, h5⟩ := open_row underlying28 cells3 (by decide) bytes3 (by decide) h hw
  obtain ⟨f, hf⟩ := choose_lt (α := Int) (n := s.n) (p := fun i v => w.cell? ⟨b, off + i, none⟩ = some (.int .i64 v) ∧ W64 v) (fun i hi => by
    obtain ⟨cs', c1, c2, c3, _⟩ := h5 i hi
    obtain ⟨v, rfl, _, hwf⟩ := DataW.trod_int underlying3 c3
    have := c2 0 (by decide)
    exact ⟨v, by simpa using this, w64_of hwf⟩)
  exact ⟨s, f, rfl, ⟨h1, h2, h3, fun h0 => ⟨b, off, h4 h0, fun i hi => (hf i hi).1⟩⟩, fun i hi => (hf i hi).2⟩

theorem cells39 : Try.prog.cellsOf 39 = 7 := by kernel_rfl
theorem bytes39 : Try.prog.bytesOf 39 = 88 := by kernel_rfl
theorem cells2 : Try.prog.cellsOf 2 = 1 := by kernel_rfl
theorem cells28 : Try.prog.cellsOf 28 = 1 := by kernel_rfl
theorem underlying2 : Try.prog.underlying 2 = some (.int .i64) := by kernel_rfl

theorem Lgt.part {t : Nat} {fs : Array Field} {parts : List (DataW H)} (hu : Try.prog.underlying t = some (.struct fs)) (h : Lgt t (.agg parts)) {i : Nat} {f : Field} {d : DataW H} (hf : fs.toList[i]? = some f) (hd : parts[i]? = some d) : Lgt f.type d := fun n hn => by
  refine h n ?_
  simp only [DataW.weights, hu]
  exact DataW.weights_mem_each (by rw [List.getElem?_map, hf]; rfl) hd n hn

theorem len1 {α : Type} {l : List α} (h : l.length = 1) : ∃ a, l = [a] := by
  match l, h with | [a], _ => exact ⟨a, rfl⟩
theorem len5 {α : Type} {l : List α} (h : l.length = 5) : ∃ a b c d e, l = [a, b, c, d, e] := by
  match l, h with | [a, b, c, d, e], _ => exact ⟨a, b, c, d, e, rfl⟩
theorem len7 {α : Type} {l : List α} (h : l.length = 7) : ∃ a b c d e f g, l = [a, b, c, d, e, f, g] := by
  match l, h with | [a, b, c, d, e, f, g], _ => exact ⟨a, b, c, d, e, f, g, rfl⟩

/-- One instruction. -/
theorem open_insV {fuel : Nat} {cs : List Value} {x : DataW H × List MemPlace} (h : rd enc w fuel 39 cs = some x) (hw : Lgt 39 x.1) :
    ∃ (v : IV) (a j : Nat → Int), cs = v.cells.toList ∧ Ints w v.args a ∧ Ints w v.into j ∧ W64 v.op ∧ W64 v.ty ∧ W64 v.to ∧ W64 v.sym ∧ W64 v.num ∧ (∀ i, i < v.args.n → W64 (a i)) ∧ ∀ i, i < v.into.n → W64 (j i) := by
  obtain ⟨xs, n, _, rfl, hl, hx, hf⟩ := DataW.trod_struct Try.underlying39 h
  rw [cells39] at hl
  obtain ⟨c0, c1, c2, c3, c4, c5, c6, rfl⟩ := len7 hl
  obtain ⟨y0, y1, y2, y3, y4, y5, y6, rfl⟩ := len7 (show xs.length = 7 from hx)
  have f0 := hf 0 _ rfl
  have f1 := hf 1 _ rfl
  have f2 := hf 2 _ rfl
  have f3 := hf 3 _ rfl
  have f4 := hf 4 _ rfl
  have f5 := hf 5 _ rfl
  have f6 := hf 6 _ rfl
  have w5 : Lgt 28 y5.1 := Lgt.part Try.underlying39 hw (i := 5) rfl rfl
  have w6 : Lgt 28 y6.1 := Lgt.part Try.underlying39 hw (i := 6) rfl rfl
  simp [cells3, cells2, cells28] at f0 f1 f2 f3 f4 f5 f6
  obtain ⟨v0, e0, _, b0⟩ := DataW.trod_int underlying3 f0
  obtain ⟨v1, e1, _, b1⟩ := DataW.trod_int underlying3 f1
  obtain ⟨v2, e2, _, b2⟩ := DataW.trod_int underlying3 f2
  obtain ⟨v3, e3, _, b3⟩ := DataW.trod_int underlying3 f3
  obtain ⟨v4, e4, _, b4⟩ := DataW.trod_int underlying2 f4
  obtain ⟨sa, a, e5, i5, b5⟩ := open_intsV f5 w5
  obtain ⟨si, j, e6, i6, b6⟩ := open_intsV f6 w6
  simp at e0 e1 e2 e3 e4 e5 e6
  subst e0 e1 e2 e3 e4 e5 e6
  exact ⟨⟨v0, v1, v2, v3, v4, sa, si⟩, a, j, rfl, i5, i6, w64_of b0, w64_of b1, w64_of b2, w64_of b3, w64_of b4, b5, b6⟩

instance : Inhabited Sl := ⟨⟨none, 0, 0⟩⟩
instance : Inhabited IV := ⟨IV.zero⟩

/-- A row of instructions. -/
theorem open_inss {fuel : Nat} {cs : List Value} {x : DataW H × List MemPlace} (h : rd enc w fuel 35 cs = some x) (hw : Lgt 35 x.1) :
    ∃ (s : Sl) (I : Nat → IV) (A J : Nat → Nat → Int), cs = [.slice s.a s.n s.c] ∧ Inss w s I ∧ ∀ k, k < s.n → Ints w (I k).args (A k) ∧ Ints w (I k).into (J k) ∧ W64 (I k).op ∧ W64 (I k).ty ∧ W64 (I k).to ∧ W64 (I k).sym ∧ W64 (I k).num ∧ (∀ i, i < (I k).args.n → W64 (A k i)) ∧ ∀ i, i < (I k).into.n → W64 (J k i) := by
  obtain ⟨s, n, b, off, D, Pl, rfl, h1, h2, h3, h4, h5⟩ := open_row underlying35 cells39 (by decide) bytes39 (by decide) h hw
  obtain ⟨f, hf⟩ := choose_lt (α := IV × (Nat → Int) × (Nat → Int)) (n := s.n) (p := fun i v => InsAt w b (off + i * 7) v.1 ∧ Ints w v.1.args v.2.1 ∧ Ints w v.1.into v.2.2 ∧ W64 v.1.op ∧ W64 v.1.ty ∧ W64 v.1.to ∧ W64 v.1.sym ∧ W64 v.1.num ∧ (∀ i, i < v.1.args.n → W64 (v.2.1 i)) ∧ ∀ i, i < v.1.into.n → W64 (v.2.2 i)) (fun i hi => by
    obtain ⟨cs', c1, c2, c3, c4⟩ := h5 i hi
    obtain ⟨v, a, j, rfl, hr⟩ := open_insV c3 c4
    exact ⟨(v, a, j), ⟨by simpa using c2 0 (by decide), c2 1 (by decide), c2 2 (by decide), c2 3 (by decide), c2 4 (by decide), c2 5 (by decide), c2 6 (by decide)⟩, hr⟩)
  exact ⟨s, fun k => (f k).1, fun k => (f k).2.1, fun k => (f k).2.2, rfl, ⟨h1, h2, h3, fun h0 => ⟨b, off, h4 h0, fun i hi => (hf i hi).1⟩⟩, fun k hk => (hf k hk).2⟩

theorem cells37 : Try.prog.cellsOf 37 = 1 := by kernel_rfl
theorem bytes37 : Try.prog.bytesOf 37 = 24 := by kernel_rfl
theorem cells35 : Try.prog.cellsOf 35 = 1 := by kernel_rfl
theorem cells33 : Try.prog.cellsOf 33 = 5 := by kernel_rfl
theorem cells31 : Try.prog.cellsOf 31 = 1 := by kernel_rfl
theorem cells9 : Try.prog.cellsOf 9 = 1 := by kernel_rfl
theorem cells4 : Try.prog.cellsOf 4 = 1 := by kernel_rfl

theorem open_blk {fuel : Nat} {cs : List Value} {x : DataW H × List MemPlace} (h : rd enc w fuel 37 cs = some x) (hw : Lgt 37 x.1) : ∃ n y, rd enc w n 35 cs = some y ∧ Lgt 35 y.1 := by
  obtain ⟨xs, n, _, rfl, hl, hx, hf⟩ := DataW.trod_struct Try.underlying37 h
  rw [cells37] at hl
  obtain ⟨c0, rfl⟩ := len1 hl
  obtain ⟨y0, rfl⟩ := len1 (show xs.length = 1 from hx)
  have f0 := hf 0 _ rfl
  have w0 : Lgt 35 y0.1 := Lgt.part Try.underlying37 hw (i := 0) rfl rfl
  simp [cells35] at f0
  exact ⟨n, y0, f0, w0⟩

/-- All numbers of a function fit. -/
structure Fits (F : FV) : Prop where
  res : W64 F.res
  par : ∀ i, i < F.par.n → W64 (F.P i)
  ins : ∀ j, j < F.blk.n → ∀ k, k < (F.B j).n → W64 (F.I j k).op ∧ W64 (F.I j k).ty ∧ W64 (F.I j k).to ∧ W64 (F.I j k).sym ∧ W64 (F.I j k).num
  args : ∀ j, j < F.blk.n → ∀ k, k < (F.B j).n → ∀ i, i < (F.I j k).args.n → W64 (F.A j k i)
  into : ∀ j, j < F.blk.n → ∀ k, k < (F.B j).n → ∀ i, i < (F.I j k).into.n → W64 (F.J j k i)

theorem Fits.rng {F : FV} (h : Fits F) : Rng F := ⟨fun j hj k hk => (h.ins j hj k hk).2.2.1, h.args⟩

/-- A function. -/
theorem open_func {fuel : Nat} {cs : List Value} {x : DataW H × List MemPlace} (h : rd enc w fuel 33 cs = some x) (hw : Lgt 33 x.1) :
    ∃ F : FV, cs = [.string F.name, .bool F.out, .slice F.par.a F.par.n F.par.c, .int .i64 F.res, .slice F.blk.a F.blk.n F.blk.c] ∧ In w F ∧ Fits F ∧ F.name.size ≤ maxLen := by
  obtain ⟨xs, n, _, rfl, hl, hx, hf⟩ := DataW.trod_struct Try.underlying33 h
  rw [cells33] at hl
  obtain ⟨c0, c1, c2, c3, c4, rfl⟩ := len5 hl
  obtain ⟨y0, y1, y2, y3, y4, rfl⟩ := len5 (show xs.length = 5 from hx)
  have f0 := hf 0 _ rfl
  have f1 := hf 1 _ rfl
  have f2 := hf 2 _ rfl
  have f3 := hf 3 _ rfl
  have f4 := hf 4 _ rfl
  have w2 : Lgt 28 y2.1 := Lgt.part Try.underlying33 hw (i := 2) rfl rfl
  have w4 : Lgt 31 y4.1 := Lgt.part Try.underlying33 hw (i := 4) rfl rfl
  simp [cells3, cells9, cells28, cells31, cells4] at f0 f1 f2 f3 f4
  obtain ⟨nm, e0, _, b0⟩ := DataW.trod_string Try.underlying9 f0
  obtain ⟨ou, e1, _⟩ := DataW.trod_bool Try.underlying4 f1
  obtain ⟨sp, P, e2, i2, b2⟩ := open_intsV f2 w2
  obtain ⟨re, e3, _, b3⟩ := DataW.trod_int underlying3 f3
  obtain ⟨sb, nb, b, off, D, Pl, e4, h1, h2, h3, h4, h5⟩ := open_row underlying31 cells37 (by decide) bytes37 (by decide) f4 w4
  simp at e0 e1 e2 e3 e4
  subst e0 e1 e2 e3 e4
  obtain ⟨f, hf⟩ := choose_lt (α := Sl × (Nat → IV) × (Nat → Nat → Int) × (Nat → Nat → Int)) (n := sb.n) (p := fun i v => w.cell? ⟨b, off + i, none⟩ = some (.slice v.1.a v.1.n v.1.c) ∧ Inss w v.1 v.2.1 ∧ ∀ k, k < v.1.n → Ints w (v.2.1 k).args (v.2.2.1 k) ∧ Ints w (v.2.1 k).into (v.2.2.2 k) ∧ W64 (v.2.1 k).op ∧ W64 (v.2.1 k).ty ∧ W64 (v.2.1 k).to ∧ W64 (v.2.1 k).sym ∧ W64 (v.2.1 k).num ∧ (∀ i, i < (v.2.1 k).args.n → W64 (v.2.2.1 k i)) ∧ ∀ i, i < (v.2.1 k).into.n → W64 (v.2.2.2 k i)) (fun i hi => by
    obtain ⟨cs', c1, c2, c3, c4⟩ := h5 i hi
    obtain ⟨m, y, d1, d2⟩ := open_blk c3 c4
    obtain ⟨s, I, A, J, rfl, hr⟩ := open_inss d1 d2
    exact ⟨(s, I, A, J), by simpa using c2 0 (by decide), hr⟩)
  refine ⟨⟨nm, ou, sp, re, sb, P, fun j => (f j).1, fun j => (f j).2.1, fun j => (f j).2.2.1, fun j => (f j).2.2.2⟩, rfl, ⟨i2, ⟨h1, h2, h3, fun h0 => ⟨b, off, h4 h0, fun i hi => (hf i hi).1⟩⟩, fun j hj => (hf j hj).2.1, fun j hj k hk => ((hf j hj).2.2 k hk).1, fun j hj k hk => ((hf j hj).2.2 k hk).2.1⟩, ⟨w64_of b3, b2, fun j hj k hk => ?_, fun j hj k hk => ?_, fun j hj k hk => ?_⟩, b0⟩
  · obtain ⟨_, _, a1, a2, a3, a4, a5, _⟩ := (hf j hj).2.2 k hk
    exact ⟨a1, a2, a3, a4, a5⟩
  · obtain ⟨_, _, _, _, _, _, _, a, _⟩ := (hf j hj).2.2 k hk
    exact a
  · obtain ⟨_, _, _, _, _, _, _, _, a⟩ := (hf j hj).2.2 k hk
    exact a

end Go.Proofs.Ytbmfimojhcdnbaa.Opn
