/-
  What comes in as an argument: rows of numbers, rows of calls.
-/
import Derived.Test.YtckkbamelkkblaaView
import Derived.Deep.Slices
import Derived.OpenShut
import Derived.SizedLaws
import Derived.ProofKit
namespace Go.Proofs.Ytckkbamelkkblaa.ObO
open Go.RowKit Go.Deep View

set_option linter.unusedVariables false

variable {H : Type} {enc : TypeId × Value → H} {w : World}

noncomputable abbrev rd (enc : TypeId × Value → H) (w : World) (fuel t : Nat) (cs : List Value) : Option (DataW H × List MemPlace) := DataW.trod enc Try.prog w 0 (fun _ => true) true fuel t cs

/-- All that it weighs is within reach. -/
def Lgt (t : Nat) (d : DataW H) : Prop := ∀ n ∈ d.weights Try.prog t, n ≤ reachBytes

theorem weightsAll_mem {P : Program} {e : TypeId} : ∀ {l : List (DataW H)} {d : DataW H}, d ∈ l → ∀ n ∈ d.weights P e, n ∈ DataW.weightsAll P e l
  | x :: l, d, h, n, hn => by
    rw [DataW.weightsAll, List.mem_append]
    rcases List.mem_cons.1 h with rfl | h
    · exact .inl hn
    · exact .inr (weightsAll_mem h n hn)

theorem open_row {T e z by_ fuel : Nat} {cs : List Value} {x : DataW H × List MemPlace} (hT : Try.prog.underlying T = some (.slice e)) (hz : Try.prog.cellsOf e = z) (hz0 : 0 < z) (hby : Try.prog.bytesOf e = by_) (hb0 : 0 < by_)
    (h : rd enc w fuel T cs = some x) (hw : Lgt T x.1) :
    ∃ (s : Sl) (n b off : Nat) (D : Nat → DataW H) (Pl : Nat → List MemPlace), cs = [.slice s.a s.n s.c] ∧ s.n ≤ s.c ∧ s.n ≤ 140737488355328 ∧ (s.a = none → s.c = 0) ∧ (0 < s.n → s.a = some ⟨b, off, none⟩) ∧
      ∀ i, i < s.n → ∃ cs' : List Value, cs'.length = z ∧ (∀ c, c < z → w.cell? ⟨b, off + i * z + c, none⟩ = cs'[c]?) ∧ rd enc w n e cs' = some (D i, Pl i) ∧ Lgt e (D i) := by
  rcases open_slice hT h with ⟨rfl, rfl⟩ | ⟨a, len, cap, m, n, D, Pl, rfl, _, hlc, hcm, hm, rfl, hel⟩
  · exact ⟨⟨none, 0, 0⟩, 0, 0, 0, fun _ => .nil, fun _ => [], rfl, Nat.le_refl _, Nat.zero_le _, fun _ => rfl, fun h => absurd h (by simp), fun i hi => absurd hi (by simp)⟩
  · simp only [if_true] at hm
    subst hm
    rw [hz] at hel
    have hwt : (len + (m - len)) * by_ ≤ reachBytes := by
      have := hw ((len + (m - len)) * Try.prog.bytesOf e) (by simp [DataW.weights, hT])
      rw [hby] at this; exact this
    have hlen : len ≤ 140737488355328 := by
      have h1 : len ≤ (len + (m - len)) * by_ := Nat.le_trans (by omega : len ≤ len + (m - len)) (Nat.le_mul_of_pos_right _ hb0)
      unfold reachBytes at hwt
      omega
    have hD : ∀ i, i < len → Lgt e (D i) := fun i hi k hk => by
      refine hw k ?_
      simp only [DataW.weights, hT, List.mem_cons, List.mem_append]
      exact .inr (.inl (weightsAll_mem (List.mem_map.2 ⟨i, List.mem_range.2 hi, rfl⟩) k hk))
    obtain ⟨b, off, spot⟩ := a
    by_cases h0 : 0 < len
    · have hspot : spot = none := by
        obtain ⟨cs', h1, _⟩ := hel 0 (by omega)
        obtain ⟨_, h2, h3⟩ := World.cells?_some h1
        have h4 := h3 0 hz0
        simp only [Nat.zero_mul, Addr.add, if_true] at h4
        have h5 : 0 < cs'.length := by omega
        rw [List.getElem?_eq_getElem h5] at h4
        simpa using World.cell?_spot h4
      subst hspot
      refine ⟨⟨some ⟨b, off, none⟩, len, m⟩, n, b, off, D, Pl, rfl, hlc, hlen, fun h => by simp at h, fun _ => rfl, fun i hi => ?_⟩
      obtain ⟨cs', h1, h2⟩ := hel i (by simp only at hi; omega)
      obtain ⟨_, h3, h4⟩ := World.cells?_some h1
      exact ⟨cs', h3, fun c hc => by have := h4 c hc; rw [Addr.add_lit, Addr.add_lit] at this; exact this, h2, hD i hi⟩
    · exact ⟨⟨some ⟨b, off, spot⟩, len, m⟩, n, b, off, D, Pl, rfl, hlc, hlen, fun h => by simp at h, fun h => absurd h h0, fun i hi => absurd (Nat.lt_of_le_of_lt (Nat.zero_le _) hi) h0⟩

def W64 (n : Int) : Prop := -9223372036854775808 ≤ n ∧ n ≤ 9223372036854775807

theorem w64_of {n : Int} (h : (Lit.int .i64 n).wf = true) : W64 n := by
  have := bounds_i64 h
  exact ⟨this.1, this.2⟩

theorem cells2 : Try.prog.cellsOf 2 = 1 := by kernel_rfl
theorem bytes2 : Try.prog.bytesOf 2 = 8 := by kernel_rfl
theorem cells3 : Try.prog.cellsOf 3 = 1 := by kernel_rfl

theorem Lgt.part {t : Nat} {fs : Array Field} {parts : List (DataW H)} (hu : Try.prog.underlying t = some (.struct fs)) (h : Lgt t (.agg parts)) {i : Nat} {f : Field} {d : DataW H} (hf : fs.toList[i]? = some f) (hd : parts[i]? = some d) : Lgt f.type d := fun n hn => by
  refine h n ?_
  simp only [DataW.weights, hu]
  exact DataW.weights_mem_each (by rw [List.getElem?_map, hf]; rfl) hd n hn

theorem open_ints64 {fuel : Nat} {cs : List Value} {x : DataW H × List MemPlace} (h : rd enc w fuel 30 cs = some x) (hw : Lgt 30 x.1) :
    ∃ (s : Sl) (f : Nat → Int), cs = [.slice s.a s.n s.c] ∧ Ints w s f ∧ ∀ i, i < s.n → W64 (f i) := by
  obtain ⟨s, n, b, off, D, Pl, rfl, h1, h2, h3, h4, h5⟩ := open_row Try.underlying30 cells2 (by decide) bytes2 (by decide) h hw
  obtain ⟨f, hf⟩ := choose_lt (α := Int) (n := s.n) (p := fun i v => w.cell? ⟨b, off + i, none⟩ = some (.int .i64 v) ∧ W64 v) (fun i hi => by
    obtain ⟨cs', c1, c2, c3, _⟩ := h5 i hi
    obtain ⟨v, rfl, _, hwf⟩ := DataW.trod_int Try.underlying2 c3
    have := c2 0 (by decide)
    exact ⟨v, by simpa using this, w64_of hwf⟩)
  exact ⟨s, f, rfl, ⟨h1, h2, h3, fun h0 => ⟨b, off, h4 h0, fun i hi => (hf i hi).1⟩⟩, fun i hi => (hf i hi).2⟩

theorem len5' {α : Type} {l : List α} (h : l.length = 5) : ∃ a b c d e, l = [a, b, c, d, e] := by
  match l, h with | [a, b, c, d, e], _ => exact ⟨a, b, c, d, e, rfl⟩

/-- A call as it is asked for. -/
structure AV where
  op : Int
  obj : Int
  off : Int
  v : Int
  s : Sl

abbrev AV.val (a : AV) : Value := .agg #[.int .i64 a.op, .int .i64 a.obj, .int .i64 a.off, .int .i64 a.v, .slice a.s.a a.s.n a.s.c]

structure AAt (w : World) (b o : Nat) (a : AV) : Prop where
  c0 : w.cell? ⟨b, o, none⟩ = some (.int .i64 a.op)
  c1 : w.cell? ⟨b, o + 1, none⟩ = some (.int .i64 a.obj)
  c2 : w.cell? ⟨b, o + 2, none⟩ = some (.int .i64 a.off)
  c3 : w.cell? ⟨b, o + 3, none⟩ = some (.int .i64 a.v)
  c4 : w.cell? ⟨b, o + 4, none⟩ = some (.slice a.s.a a.s.n a.s.c)

/-- A row of calls. -/
def Acts (w : World) (s : Sl) (A : Nat → AV) (F : Nat → Nat → Int) : Prop :=
  s.n ≤ s.c ∧ s.n ≤ 140737488355328 ∧ (s.a = none → s.c = 0) ∧ (0 < s.n → ∃ b off, s.a = some ⟨b, off, none⟩ ∧ ∀ i, i < s.n → AAt w b (off + i * 5) (A i) ∧ Ints w (A i).s (F i))

theorem cells32 : Try.prog.cellsOf 32 = 5 := by kernel_rfl
theorem bytes32 : Try.prog.bytesOf 32 = 56 := by kernel_rfl
theorem cells30 : Try.prog.cellsOf 30 = 1 := by kernel_rfl
theorem size32 : (Try.prog.info? 32).map (fun i => i.size) = some 5 := by kernel_rfl

theorem open_actV {fuel : Nat} {cs : List Value} {x : DataW H × List MemPlace} (h : rd enc w fuel 32 cs = some x) (hw : Lgt 32 x.1) :
    ∃ (a : AV) (f : Nat → Int), cs = [.int .i64 a.op, .int .i64 a.obj, .int .i64 a.off, .int .i64 a.v, .slice a.s.a a.s.n a.s.c] ∧ Ints w a.s f ∧ W64 a.op ∧ W64 a.obj ∧ W64 a.off ∧ W64 a.v := by
  obtain ⟨xs, n, _, rfl, hl, hx, hf⟩ := DataW.trod_struct Try.underlying32 h
  rw [cells32] at hl
  obtain ⟨c0, c1, c2, c3, c4, rfl⟩ := len5' hl
  obtain ⟨y0, y1, y2, y3, y4, rfl⟩ := len5' (show xs.length = 5 from hx)
  have f0 := hf 0 _ rfl
  have f1 := hf 1 _ rfl
  have f2 := hf 2 _ rfl
  have f3 := hf 3 _ rfl
  have f4 := hf 4 _ rfl
  have w4 : Lgt 30 y4.1 := Lgt.part Try.underlying32 hw (i := 4) rfl rfl
  simp [cells3, cells2, cells30] at f0 f1 f2 f3 f4
  obtain ⟨v0, e0, _, b0⟩ := DataW.trod_int Try.underlying3 f0
  obtain ⟨v1, e1, _, b1⟩ := DataW.trod_int Try.underlying3 f1
  obtain ⟨v2, e2, _, b2⟩ := DataW.trod_int Try.underlying2 f2
  obtain ⟨v3, e3, _, b3⟩ := DataW.trod_int Try.underlying2 f3
  obtain ⟨s4, f4', e4, i4, b4⟩ := open_ints64 f4 w4
  simp at e0 e1 e2 e3 e4
  subst e0 e1 e2 e3 e4
  exact ⟨⟨v0, v1, v2, v3, s4⟩, f4', rfl, i4, w64_of b0, w64_of b1, w64_of b2, w64_of b3⟩

instance : Inhabited Sl := ⟨⟨none, 0, 0⟩⟩
instance : Inhabited AV := ⟨⟨0, 0, 0, 0, ⟨none, 0, 0⟩⟩⟩

theorem open_acts {fuel : Nat} {cs : List Value} {x : DataW H × List MemPlace} (h : rd enc w fuel 22 cs = some x) (hw : Lgt 22 x.1) :
    ∃ (s : Sl) (A : Nat → AV) (F : Nat → Nat → Int), cs = [.slice s.a s.n s.c] ∧ Acts w s A F := by
  obtain ⟨s, n, b, off, D, Pl, rfl, h1, h2, h3, h4, h5⟩ := open_row Try.underlying22 cells32 (by decide) bytes32 (by decide) h hw
  obtain ⟨f, hf⟩ := choose_lt (α := AV × (Nat → Int)) (n := s.n) (p := fun i v => AAt w b (off + i * 5) v.1 ∧ Ints w v.1.s v.2) (fun i hi => by
    obtain ⟨cs', c1, c2, c3, c4⟩ := h5 i hi
    obtain ⟨a, f, rfl, hr⟩ := open_actV c3 c4
    exact ⟨(a, f), ⟨by simpa using c2 0 (by decide), c2 1 (by decide), c2 2 (by decide), c2 3 (by decide), c2 4 (by decide)⟩, hr.1⟩)
  exact ⟨s, fun k => (f k).1, fun k => (f k).2, rfl, ⟨h1, h2, h3, fun h0 => ⟨b, off, h4 h0, hf⟩⟩⟩

end Go.Proofs.Ytckkbamelkkblaa.ObO
