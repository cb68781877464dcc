/-
  How a function of the module lies in memory: values, slices, cells; what stays when memory grows.
-/
import Derived.Test.YtckkbamelkkblaaProg
import Derived.WalkKit
import Derived.ProofKit
import Derived.WalkSpells
import Derived.Deep.Light
import Derived.WalkSmall
namespace Go.Proofs.Ytckkbamelkkblaa.View
open Go.RowKit

/-- A slice: where, how long, what room. -/
structure Sl where
  a : Option Addr
  n : Nat
  c : Nat

/-- An instruction as it lies. -/
structure IV where
  op : Int
  ty : Int
  to : Int
  sym : Int
  num : Int
  args : Sl
  into : Sl

abbrev IV.val (v : IV) : Value := .agg #[.int .i64 v.op, .int .i64 v.ty, .int .i64 v.to, .int .i64 v.sym, .int .i64 v.num, .slice v.args.a v.args.n v.args.c, .slice v.into.a v.into.n v.into.c]

/-- A function as it lies: P its parameters, B its blocks' rows, I their instructions, A and J what these name. -/
structure FV where
  name : ByteArray
  out : Bool
  par : Sl
  res : Int
  blk : Sl
  P : Nat → Int
  B : Nat → Sl
  I : Nat → Nat → IV
  A : Nat → Nat → Nat → Int
  J : Nat → Nat → Nat → Int

abbrev FV.val (F : FV) : Value := .agg #[.string F.name, .bool F.out, .slice F.par.a F.par.n F.par.c, .int .i64 F.res, .slice F.blk.a F.blk.n F.blk.c]

def Ints (w : World) (s : Sl) (f : Nat → Int) : Prop :=
  s.n ≤ s.c ∧ s.n ≤ 140737488355328 ∧ (s.a = none → s.c = 0) ∧ (0 < s.n → ∃ b off, s.a = some ⟨b, off, none⟩ ∧ ∀ i, i < s.n → w.cell? ⟨b, off + i, none⟩ = some (.int .i64 (f i)))

def Sls (w : World) (s : Sl) (f : Nat → Sl) : Prop :=
  s.n ≤ s.c ∧ s.n ≤ 140737488355328 ∧ (s.a = none → s.c = 0) ∧ (0 < s.n → ∃ b off, s.a = some ⟨b, off, none⟩ ∧ ∀ i, i < s.n → w.cell? ⟨b, off + i, none⟩ = some (.slice (f i).a (f i).n (f i).c))

structure InsAt (w : World) (b o : Nat) (v : IV) : Prop where
  c0 : w.cell? ⟨b, o, none⟩ = some (.int .i64 v.op)
  c1 : w.cell? ⟨b, o + 1, none⟩ = some (.int .i64 v.ty)
  c2 : w.cell? ⟨b, o + 2, none⟩ = some (.int .i64 v.to)
  c3 : w.cell? ⟨b, o + 3, none⟩ = some (.int .i64 v.sym)
  c4 : w.cell? ⟨b, o + 4, none⟩ = some (.int .i64 v.num)
  c5 : w.cell? ⟨b, o + 5, none⟩ = some (.slice v.args.a v.args.n v.args.c)
  c6 : w.cell? ⟨b, o + 6, none⟩ = some (.slice v.into.a v.into.n v.into.c)

def Inss (w : World) (s : Sl) (f : Nat → IV) : Prop :=
  s.n ≤ s.c ∧ s.n ≤ 140737488355328 ∧ (s.a = none → s.c = 0) ∧ (0 < s.n → ∃ b off, s.a = some ⟨b, off, none⟩ ∧ ∀ i, i < s.n → InsAt w b (off + i * 7) (f i))

/-- F lies in w. -/
structure In (w : World) (F : FV) : Prop where
  par : Ints w F.par F.P
  blk : Sls w F.blk F.B
  ins : ∀ j, j < F.blk.n → Inss w (F.B j) (F.I j)
  args : ∀ j, j < F.blk.n → ∀ k, k < (F.B j).n → Ints w (F.I j k).args (F.A j k)
  into : ∀ j, j < F.blk.n → ∀ k, k < (F.B j).n → Ints w (F.I j k).into (F.J j k)

theorem cell_on {w w' : World} {a : Addr} {v : Value} (hb : Below w.heap.size w w') (h : w.cell? a = some v) : w'.cell? a = some v := by
  rw [hb.cell (World.block_lt_of_cell? w a h)]; exact h

theorem Ints.on {w w' : World} {s : Sl} {f : Nat → Int} (hb : Below w.heap.size w w') (h : Ints w s f) : Ints w' s f :=
  ⟨h.1, h.2.1, h.2.2.1, fun h0 => by
    obtain ⟨b, off, ha, hc⟩ := h.2.2.2 h0
    exact ⟨b, off, ha, fun i hi => cell_on hb (hc i hi)⟩⟩

theorem Sls.on {w w' : World} {s : Sl} {f : Nat → Sl} (hb : Below w.heap.size w w') (h : Sls w s f) : Sls w' s f :=
  ⟨h.1, h.2.1, h.2.2.1, fun h0 => by
    obtain ⟨b, off, ha, hc⟩ := h.2.2.2 h0
    exact ⟨b, off, ha, fun i hi => cell_on hb (hc i hi)⟩⟩

theorem InsAt.on {w w' : World} {b o : Nat} {v : IV} (hb : Below w.heap.size w w') (h : InsAt w b o v) : InsAt w' b o v :=
  ⟨cell_on hb h.c0, cell_on hb h.c1, cell_on hb h.c2, cell_on hb h.c3, cell_on hb h.c4, cell_on hb h.c5, cell_on hb h.c6⟩

theorem Inss.on {w w' : World} {s : Sl} {f : Nat → IV} (hb : Below w.heap.size w w') (h : Inss w s f) : Inss w' s f :=
  ⟨h.1, h.2.1, h.2.2.1, fun h0 => by
    obtain ⟨b, off, ha, hc⟩ := h.2.2.2 h0
    exact ⟨b, off, ha, fun i hi => (hc i hi).on hb⟩⟩

theorem In.on {w w' : World} {F : FV} (hb : Below w.heap.size w w') (h : In w F) : In w' F :=
  ⟨h.par.on hb, h.blk.on hb, fun j hj => (h.ins j hj).on hb, fun j hj k hk => (h.args j hj k hk).on hb, fun j hj k hk => (h.into j hj k hk).on hb⟩

/-- An index into a slice whose address the walk does not see. -/
theorem index_row {s : Sl} {b off : Nat} (ha : s.a = some ⟨b, off, none⟩) {T e z : Nat} (hT : Try.prog.underlying T = some (.slice e)) (hz : (Try.prog.info? e).map (fun i => i.size) = some z) {k : Nat} (hk : k < s.n) :
    ∀ wx, (Instr.indexAt T (.slice s.a s.n s.c) (.int .i64 k)).run Try.prog wx = .ok (.pointer (some ⟨b, off + k * z, none⟩)) wx := by
  intro wx
  have he : Try.prog.elem T = e := by unfold Program.elem; rw [hT]
  obtain ⟨i, hi, hi'⟩ := Option.map_eq_some_iff.1 hz
  rw [ha, run_indexAt_slice _ _ _ _ _ _ _ (by rw [he]; exact hT), if_pos ⟨by omega, by omega⟩, he]
  simp [sizeOf, typeInfo, hi, hi', Addr.add_lit]

/-- the sum of the first j numbers -/
def cnt (n : Nat → Nat) : Nat → Nat
  | 0 => 0
  | j + 1 => cnt n j + n j

theorem cnt_le {n : Nat → Nat} {m : Nat} : ∀ {j : Nat}, (∀ i, i < j → n i ≤ m) → cnt n j ≤ j * m
  | 0, _ => by simp [cnt]
  | j + 1, h => by
    have h1 := cnt_le (j := j) (fun i hi => h i (by omega))
    have h2 := h j (by omega)
    rw [cnt, Nat.add_mul]; omega

/-- Light enough. -/
structure Light (F : FV) : Prop where
  all : cnt (fun j => (F.B j).n) F.blk.n ≤ 400
  name : F.name.size ≤ 40
  par : F.par.n ≤ 8
  blk : F.blk.n ≤ 48
  ins : ∀ j, j < F.blk.n → (F.B j).n ≤ 400
  args : ∀ j, j < F.blk.n → ∀ k, k < (F.B j).n → (F.I j k).args.n ≤ 20
  into : ∀ j, j < F.blk.n → ∀ k, k < (F.B j).n → (F.I j k).into.n ≤ 20

/-- how many of the first k of a row give a value -/
def giv (f : Nat → IV) : Nat → Nat
  | 0 => 0
  | k + 1 => giv f k + if (f k).ty != 0 then 1 else 0

theorem giv_le (f : Nat → IV) : ∀ k, giv f k ≤ k
  | 0 => Nat.le_refl _
  | k + 1 => by have := giv_le f k; rw [giv]; split <;> omega

theorem cnt_le2 {f g : Nat → Nat} {k : Nat} (h : ∀ t, t < k → f t ≤ g t) : cnt f k ≤ cnt g k := by
  induction k with
  | zero => exact Nat.le_refl _
  | succ k ih =>
    have h1 := ih (fun t ht => h t (by omega))
    have h2 := h k (by omega)
    simp only [cnt]; omega

theorem giv_all {F : FV} (hl : Light F) : cnt (fun j => giv (F.I j) (F.B j).n) F.blk.n ≤ 400 :=
  Nat.le_trans (cnt_le2 (fun _ _ => giv_le _ _)) hl.all

/-- One world behind the other. -/
theorem more {w a b : World} (h : Below w.heap.size w a) (k : Below a.heap.size a b) : Below w.heap.size w b := h.trans (k.mono h.size)
theorem new {w a : World} (h : Below w.heap.size w a) (o : Obj) : Below w.heap.size w (a.alloc o) := h.alloc h.size o
theorem same (w : World) : Below w.heap.size w w := Below.refl _ _

abbrev IV.cells (v : IV) : Array Value := #[.int .i64 v.op, .int .i64 v.ty, .int .i64 v.to, .int .i64 v.sym, .int .i64 v.num, .slice v.args.a v.args.n v.args.c, .slice v.into.a v.into.n v.into.c]

abbrev IV.zero : IV := ⟨0, 0, 0, 0, 0, ⟨none, 0, 0⟩, ⟨none, 0, 0⟩⟩

theorem ne_off {b o o' : Nat} (h : o ≠ o') : (⟨b, o, none⟩ : Addr) ≠ ⟨b, o', none⟩ := fun e => h (congrArg Addr.off e)

theorem cell_other {w : World} {a b : Addr} {v u : Value} (h : a ≠ b) (hc : w.cell? b = some u) : (w.setCell a v).cell? b = some u := by
  rw [World.cell?_setCell_other (h := h)]; exact hc

theorem cell_same {w : World} {a : Addr} {v u : Value} (hc : w.cell? a = some u) : (w.setCell a v).cell? a = some v := by
  rw [World.cell?_setCell_same (h := hc)]

theorem InsAt.set5 {w : World} {b o : Nat} {v : IV} (h : InsAt w b o v) (s : Sl) : InsAt (w.setCell ⟨b, o + 5, none⟩ (.slice s.a s.n s.c)) b o { v with args := s } :=
  ⟨cell_other (ne_off (by omega)) h.c0, cell_other (ne_off (by omega)) h.c1, cell_other (ne_off (by omega)) h.c2, cell_other (ne_off (by omega)) h.c3, cell_other (ne_off (by omega)) h.c4, cell_same h.c5, cell_other (ne_off (by omega)) h.c6⟩

theorem InsAt.set6 {w : World} {b o : Nat} {v : IV} (h : InsAt w b o v) (s : Sl) : InsAt (w.setCell ⟨b, o + 6, none⟩ (.slice s.a s.n s.c)) b o { v with into := s } :=
  ⟨cell_other (ne_off (by omega)) h.c0, cell_other (ne_off (by omega)) h.c1, cell_other (ne_off (by omega)) h.c2, cell_other (ne_off (by omega)) h.c3, cell_other (ne_off (by omega)) h.c4, cell_other (ne_off (by omega)) h.c5, cell_same h.c6⟩

/-- The seven cells at the head of a block. -/
theorem InsAt.head {w : World} {b : Nat} {v : IV} (h : InsAt w b 0 v) : w.cell? ⟨b, 0, none⟩ = some (.int .i64 v.op) ∧ w.cell? ⟨b, 1, none⟩ = some (.int .i64 v.ty) ∧ w.cell? ⟨b, 2, none⟩ = some (.int .i64 v.to) ∧ w.cell? ⟨b, 3, none⟩ = some (.int .i64 v.sym) ∧ w.cell? ⟨b, 4, none⟩ = some (.int .i64 v.num) ∧ w.cell? ⟨b, 5, none⟩ = some (.slice v.args.a v.args.n v.args.c) ∧ w.cell? ⟨b, 6, none⟩ = some (.slice v.into.a v.into.n v.into.c) :=
  ⟨h.c0, by simpa using h.c1, by simpa using h.c2, by simpa using h.c3, by simpa using h.c4, by simpa using h.c5, by simpa using h.c6⟩

/-- A row of the call's own: its block lies from base on and below top, none of its cells is frozen. -/
def Mine (base top : Nat) (w : World) (s : Sl) : Prop :=
  0 < s.n → ∃ g, s.a = some ⟨g, 0, none⟩ ∧ base ≤ g ∧ g < top ∧ ∀ i, w.frozen? ⟨g, i, none⟩ = false

theorem Mine.on {base top : Nat} {w w' : World} {s : Sl} (hb : Below w.heap.size w w') (ht : top ≤ w.heap.size) (h : Mine base top w s) : Mine base top w' s := fun h0 => by
  obtain ⟨g, h1, h2, h3, h4⟩ := h h0
  exact ⟨g, h1, h2, h3, fun i => by rw [hb.frozen (by show g < _; omega)]; exact h4 i⟩

theorem Mine.wide {base top base' top' : Nat} {w : World} {s : Sl} (h : Mine base top w s) (h1 : base' ≤ base) (h2 : top ≤ top') : Mine base' top' w s := fun h0 => by
  obtain ⟨g, a1, a2, a3, a4⟩ := h h0
  exact ⟨g, a1, by omega, by omega, a4⟩

/-- The blocks that p names are as they were; none was laid, none has gone. -/
structure Kept (p : Nat → Prop) (w w' : World) : Prop where
  size : w.heap.size ≤ w'.heap.size
  block : ∀ k, p k → w'.heap[k]? = w.heap[k]?

theorem Kept.refl (p : Nat → Prop) (w : World) : Kept p w w := ⟨Nat.le_refl _, fun _ _ => rfl⟩
theorem Kept.setCell {p : Nat → Prop} {w w' : World} (h : Kept p w w') {a : Addr} (ha : ¬ p a.block) (v : Value) : Kept p w (w'.setCell a v) :=
  ⟨by rw [World.size_setCell]; exact h.size, fun k hk => by rw [Below.heap_setCell _ _ _ _ (fun e => ha (e ▸ hk))]; exact h.block k hk⟩

theorem Ints.kept {p : Nat → Prop} {w w' : World} {s : Sl} {f : Nat → Int} (h : Ints w s f) (k : Kept p w w') (hp : ∀ b off, s.a = some ⟨b, off, none⟩ → 0 < s.n → p b) : Ints w' s f :=
  ⟨h.1, h.2.1, h.2.2.1, fun h0 => by
    obtain ⟨b, off, ha, hc⟩ := h.2.2.2 h0
    exact ⟨b, off, ha, fun i hi => by rw [World.cell?_of_block (w := w) (k.block b (hp b off ha h0))]; exact hc i hi⟩⟩

theorem cell_kept {p : Nat → Prop} {w w' : World} {a : Addr} {v : Value} (k : Kept p w w') (hp : p a.block) (h : w.cell? a = some v) : w'.cell? a = some v := by
  rw [World.cell?_of_block (w := w) (k.block _ hp)]; exact h

theorem InsAt.kept {p : Nat → Prop} {w w' : World} {b o : Nat} {v : IV} (h : InsAt w b o v) (k : Kept p w w') (hp : p b) : InsAt w' b o v :=
  ⟨cell_kept k hp h.c0, cell_kept k hp h.c1, cell_kept k hp h.c2, cell_kept k hp h.c3, cell_kept k hp h.c4, cell_kept k hp h.c5, cell_kept k hp h.c6⟩

theorem Mine.kept {p : Nat → Prop} {base top : Nat} {w w' : World} {s : Sl} (h : Mine base top w s) (k : Kept p w w') (hp : ∀ b, base ≤ b → b < top → p b) : Mine base top w' s := fun h0 => by
  obtain ⟨g, h1, h2, h3, h4⟩ := h h0
  exact ⟨g, h1, h2, h3, fun i => by rw [World.frozen?_of_block (w := w) (k.block g (hp g h2 h3))]; exact h4 i⟩

theorem Mine.ge {base top : Nat} {w : World} {s : Sl} (h : Mine base top w s) : ∀ b off, s.a = some ⟨b, off, none⟩ → 0 < s.n → base ≤ b ∧ b < top := fun b off ha h0 => by
  obtain ⟨g, h1, h2, h3, _⟩ := h h0
  rw [h1] at ha
  have := congrArg (fun x => x.map Addr.block) ha
  simp at this
  omega

theorem Ints.kept' {p : Nat → Prop} {base top : Nat} {w w' : World} {s : Sl} {f : Nat → Int} (h : Ints w s f) (m : Mine base top w s) (k : Kept p w w') (hp : ∀ b, base ≤ b → b < top → p b) : Ints w' s f :=
  h.kept k fun b off ha h0 => by have := m.ge b off ha h0; exact hp b this.1 this.2

theorem kept_of_grown {w w' : World} {g : Nat} (h : w.grownBy w' (some g)) : Kept (fun k => k ≠ g ∧ k < w.heap.size) w w' :=
  ⟨h.size, fun k hk => h.block k hk.2 (fun e => hk.1 (Option.some.inj e))⟩

theorem owns_on {w w' : World} {base : Nat} {e : TypeId} {size : Nat} {v : Value} {n : Nat} {xs : List Value} (hb : Below w.heap.size w w') (h : w.ownsRow base e size v n xs) : w'.ownsRow base e size v n xs := by
  refine ⟨h.1, ?_⟩
  rcases h.2 with h | ⟨g, cap, cur, h1, h2, h3, h4⟩
  · exact .inl h
  · exact .inr ⟨g, cap, cur, h1, h2, by rw [hb.block g (Array.getElem?_eq_some_iff.1 h3).1]; exact h3, h4⟩

theorem Ints.congr {w : World} {s : Sl} {f g : Nat → Int} (h : Ints w s f) (e : ∀ i, i < s.n → f i = g i) : Ints w s g :=
  ⟨h.1, h.2.1, h.2.2.1, fun h0 => by
    obtain ⟨b, off, ha, hc⟩ := h.2.2.2 h0
    exact ⟨b, off, ha, fun i hi => by rw [hc i hi, e i hi]⟩⟩

theorem results_cell {fn : Func} {p : Tmp} {ty : TypeId} (h : fn.results = #[.cell p ty]) (tmps : Array Value) (P : Program) (w : World) :
    (results fn tmps).run P w = ((asAddr (tmps.getD p undef)).run P w).andThen fun a w₁ => (loadVar ty a).run P w₁ := by
  simp only [results, h]
  simp [Sem.run_bind, Result.andThen]

end Go.Proofs.Ytckkbamelkkblaa.View
