/-
  View, Read, Copy, CopyF: laid together.
-/
import Derived.Test.YtnodofbpogcheaaProg
import Derived.WalkKit
import Derived.ProofKit
import Derived.WalkSpells
import Derived.Deep.Light
import Derived.WalkSmall
import Derived.BigQuiet
import Derived.Deep.QuietTactic
import Derived.Deep.AppendLies
import Derived.Laws.AppendOwnNone
/-
  How a function of the module lies in memory: values, slices, cells; what stays when memory grows.
-/
namespace Go.Proofs.Ytnodofbpogcheaa.View
open Go.RowKit

/-- A slice: where, how long, what room. -/
structure Sl where
  a : Option Addr
  n : Nat
  c : Nat

/-- An instruction as it lies. -/
structure IV where
  op : Int
  ty : Int
  to : Int
  sym : Int
  num : Int
  args : Sl
  into : Sl

abbrev IV.val (v : IV) : Value := .agg #[.int .i64 v.op, .int .i64 v.ty, .int .i64 v.to, .int .i64 v.sym, .int .i64 v.num, .slice v.args.a v.args.n v.args.c, .slice v.into.a v.into.n v.into.c]

/-- A function as it lies: P its parameters, B its blocks' rows, I their instructions, A and J what these name. -/
structure FV where
  name : ByteArray
  out : Bool
  par : Sl
  res : Int
  blk : Sl
  P : Nat → Int
  B : Nat → Sl
  I : Nat → Nat → IV
  A : Nat → Nat → Nat → Int
  J : Nat → Nat → Nat → Int

abbrev FV.val (F : FV) : Value := .agg #[.string F.name, .bool F.out, .slice F.par.a F.par.n F.par.c, .int .i64 F.res, .slice F.blk.a F.blk.n F.blk.c]

def Ints (w : World) (s : Sl) (f : Nat → Int) : Prop :=
  s.n ≤ s.c ∧ s.n ≤ 140737488355328 ∧ (s.a = none → s.c = 0) ∧ (0 < s.n → ∃ b off, s.a = some ⟨b, off, none⟩ ∧ ∀ i, i < s.n → w.cell? ⟨b, off + i, none⟩ = some (.int .i64 (f i)))

def Sls (w : World) (s : Sl) (f : Nat → Sl) : Prop :=
  s.n ≤ s.c ∧ s.n ≤ 140737488355328 ∧ (s.a = none → s.c = 0) ∧ (0 < s.n → ∃ b off, s.a = some ⟨b, off, none⟩ ∧ ∀ i, i < s.n → w.cell? ⟨b, off + i, none⟩ = some (.slice (f i).a (f i).n (f i).c))

structure InsAt (w : World) (b o : Nat) (v : IV) : Prop where
  c0 : w.cell? ⟨b, o, none⟩ = some (.int .i64 v.op)
  c1 : w.cell? ⟨b, o + 1, none⟩ = some (.int .i64 v.ty)
  c2 : w.cell? ⟨b, o + 2, none⟩ = some (.int .i64 v.to)
  c3 : w.cell? ⟨b, o + 3, none⟩ = some (.int .i64 v.sym)
  c4 : w.cell? ⟨b, o + 4, none⟩ = some (.int .i64 v.num)
  c5 : w.cell? ⟨b, o + 5, none⟩ = some (.slice v.args.a v.args.n v.args.c)
  c6 : w.cell? ⟨b, o + 6, none⟩ = some (.slice v.into.a v.into.n v.into.c)

def Inss (w : World) (s : Sl) (f : Nat → IV) : Prop :=
  s.n ≤ s.c ∧ s.n ≤ 140737488355328 ∧ (s.a = none → s.c = 0) ∧ (0 < s.n → ∃ b off, s.a = some ⟨b, off, none⟩ ∧ ∀ i, i < s.n → InsAt w b (off + i * 7) (f i))

/-- F lies in w. -/
structure In (w : World) (F : FV) : Prop where
  par : Ints w F.par F.P
  blk : Sls w F.blk F.B
  ins : ∀ j, j < F.blk.n → Inss w (F.B j) (F.I j)
  args : ∀ j, j < F.blk.n → ∀ k, k < (F.B j).n → Ints w (F.I j k).args (F.A j k)
  into : ∀ j, j < F.blk.n → ∀ k, k < (F.B j).n → Ints w (F.I j k).into (F.J j k)

theorem cell_on {w w' : World} {a : Addr} {v : Value} (hb : Below w.heap.size w w') (h : w.cell? a = some v) : w'.cell? a = some v := by
  rw [hb.cell (World.block_lt_of_cell? w a h)]; exact h

theorem Ints.on {w w' : World} {s : Sl} {f : Nat → Int} (hb : Below w.heap.size w w') (h : Ints w s f) : Ints w' s f :=
  ⟨h.1, h.2.1, h.2.2.1, fun h0 => by
    obtain ⟨b, off, ha, hc⟩ := h.2.2.2 h0
    exact ⟨b, off, ha, fun i hi => cell_on hb (hc i hi)⟩⟩

theorem Sls.on {w w' : World} {s : Sl} {f : Nat → Sl} (hb : Below w.heap.size w w') (h : Sls w s f) : Sls w' s f :=
  ⟨h.1, h.2.1, h.2.2.1, fun h0 => by
    obtain ⟨b, off, ha, hc⟩ := h.2.2.2 h0
    exact ⟨b, off, ha, fun i hi => cell_on hb (hc i hi)⟩⟩

theorem InsAt.on {w w' : World} {b o : Nat} {v : IV} (hb : Below w.heap.size w w') (h : InsAt w b o v) : InsAt w' b o v :=
  ⟨cell_on hb h.c0, cell_on hb h.c1, cell_on hb h.c2, cell_on hb h.c3, cell_on hb h.c4, cell_on hb h.c5, cell_on hb h.c6⟩

theorem Inss.on {w w' : World} {s : Sl} {f : Nat → IV} (hb : Below w.heap.size w w') (h : Inss w s f) : Inss w' s f :=
  ⟨h.1, h.2.1, h.2.2.1, fun h0 => by
    obtain ⟨b, off, ha, hc⟩ := h.2.2.2 h0
    exact ⟨b, off, ha, fun i hi => (hc i hi).on hb⟩⟩

theorem In.on {w w' : World} {F : FV} (hb : Below w.heap.size w w') (h : In w F) : In w' F :=
  ⟨h.par.on hb, h.blk.on hb, fun j hj => (h.ins j hj).on hb, fun j hj k hk => (h.args j hj k hk).on hb, fun j hj k hk => (h.into j hj k hk).on hb⟩

/-- An index into a slice whose address the walk does not see. -/
theorem index_row {s : Sl} {b off : Nat} (ha : s.a = some ⟨b, off, none⟩) {T e z : Nat} (hT : Try.prog.underlying T = some (.slice e)) (hz : (Try.prog.info? e).map (fun i => i.size) = some z) {k : Nat} (hk : k < s.n) :
    ∀ wx, (Instr.indexAt T (.slice s.a s.n s.c) (.int .i64 k)).run Try.prog wx = .ok (.pointer (some ⟨b, off + k * z, none⟩)) wx := by
  intro wx
  have he : Try.prog.elem T = e := by unfold Program.elem; rw [hT]
  obtain ⟨i, hi, hi'⟩ := Option.map_eq_some_iff.1 hz
  rw [ha, run_indexAt_slice _ _ _ _ _ _ _ (by rw [he]; exact hT), if_pos ⟨by omega, by omega⟩, he]
  simp [sizeOf, typeInfo, hi, hi', Addr.add_lit]

theorem underlying28 : Try.prog.underlying 28 = some (.slice 3) := by kernel_rfl
theorem underlying31 : Try.prog.underlying 31 = some (.slice 37) := by kernel_rfl
theorem underlying35 : Try.prog.underlying 35 = some (.slice 39) := by kernel_rfl
theorem size3 : (Try.prog.info? 3).map (fun i => i.size) = some 1 := by kernel_rfl
theorem size37 : (Try.prog.info? 37).map (fun i => i.size) = some 1 := by kernel_rfl
theorem size39 : (Try.prog.info? 39).map (fun i => i.size) = some 7 := by kernel_rfl

theorem Ints.at {w : World} {s : Sl} {f : Nat → Int} (h : Ints w s f) {k : Nat} (hk : k < s.n) :
    ∃ b o, (∀ wx, (Instr.indexAt 28 (.slice s.a s.n s.c) (.int .i64 k)).run Try.prog wx = .ok (.pointer (some ⟨b, o, none⟩)) wx) ∧ w.cell? ⟨b, o, none⟩ = some (.int .i64 (f k)) := by
  obtain ⟨b, off, ha, hc⟩ := h.2.2.2 (by omega)
  exact ⟨b, off + k * 1, index_row ha underlying28 size3 hk, by rw [Nat.mul_one]; exact hc k hk⟩

theorem Sls.at {w : World} {s : Sl} {f : Nat → Sl} (h : Sls w s f) {k : Nat} (hk : k < s.n) :
    ∃ b o, (∀ wx, (Instr.indexAt 31 (.slice s.a s.n s.c) (.int .i64 k)).run Try.prog wx = .ok (.pointer (some ⟨b, o, none⟩)) wx) ∧ w.cell? ⟨b, o, none⟩ = some (.slice (f k).a (f k).n (f k).c) := by
  obtain ⟨b, off, ha, hc⟩ := h.2.2.2 (by omega)
  exact ⟨b, off + k * 1, index_row ha underlying31 size37 hk, by rw [Nat.mul_one]; exact hc k hk⟩

theorem Inss.at {w : World} {s : Sl} {f : Nat → IV} (h : Inss w s f) {k : Nat} (hk : k < s.n) :
    ∃ b o, (∀ wx, (Instr.indexAt 35 (.slice s.a s.n s.c) (.int .i64 k)).run Try.prog wx = .ok (.pointer (some ⟨b, o, none⟩)) wx) ∧ InsAt w b o (f k) := by
  obtain ⟨b, off, ha, hc⟩ := h.2.2.2 (by omega)
  exact ⟨b, off + k * 7, index_row ha underlying35 size39 hk, hc k hk⟩

/-- the sum of the first j numbers -/
def cnt (n : Nat → Nat) : Nat → Nat
  | 0 => 0
  | j + 1 => cnt n j + n j

theorem cnt_le {n : Nat → Nat} {m : Nat} : ∀ {j : Nat}, (∀ i, i < j → n i ≤ m) → cnt n j ≤ j * m
  | 0, _ => by simp [cnt]
  | j + 1, h => by
    have h1 := cnt_le (j := j) (fun i hi => h i (by omega))
    have h2 := h j (by omega)
    rw [cnt, Nat.add_mul]; omega

/-- Light enough. -/
structure Light (F : FV) : Prop where
  all : cnt (fun j => (F.B j).n) F.blk.n ≤ 400
  name : F.name.size ≤ 40
  par : F.par.n ≤ 8
  blk : F.blk.n ≤ 48
  ins : ∀ j, j < F.blk.n → (F.B j).n ≤ 400
  args : ∀ j, j < F.blk.n → ∀ k, k < (F.B j).n → (F.I j k).args.n ≤ 20
  into : ∀ j, j < F.blk.n → ∀ k, k < (F.B j).n → (F.I j k).into.n ≤ 20

/-- how many of the first k of a row give a value -/
def giv (f : Nat → IV) : Nat → Nat
  | 0 => 0
  | k + 1 => giv f k + if (f k).ty != 0 then 1 else 0

theorem giv_le (f : Nat → IV) : ∀ k, giv f k ≤ k
  | 0 => Nat.le_refl _
  | k + 1 => by have := giv_le f k; rw [giv]; split <;> omega

theorem cnt_le2 {f g : Nat → Nat} {k : Nat} (h : ∀ t, t < k → f t ≤ g t) : cnt f k ≤ cnt g k := by
  induction k with
  | zero => exact Nat.le_refl _
  | succ k ih =>
    have h1 := ih (fun t ht => h t (by omega))
    have h2 := h k (by omega)
    simp only [cnt]; omega

theorem giv_all {F : FV} (hl : Light F) : cnt (fun j => giv (F.I j) (F.B j).n) F.blk.n ≤ 400 :=
  Nat.le_trans (cnt_le2 (fun _ _ => giv_le _ _)) hl.all

/-- One world behind the other. -/
theorem more {w a b : World} (h : Below w.heap.size w a) (k : Below a.heap.size a b) : Below w.heap.size w b := h.trans (k.mono h.size)
theorem new {w a : World} (h : Below w.heap.size w a) (o : Obj) : Below w.heap.size w (a.alloc o) := h.alloc h.size o
theorem same (w : World) : Below w.heap.size w w := Below.refl _ _

abbrev IV.cells (v : IV) : Array Value := #[.int .i64 v.op, .int .i64 v.ty, .int .i64 v.to, .int .i64 v.sym, .int .i64 v.num, .slice v.args.a v.args.n v.args.c, .slice v.into.a v.into.n v.into.c]

abbrev IV.zero : IV := ⟨0, 0, 0, 0, 0, ⟨none, 0, 0⟩, ⟨none, 0, 0⟩⟩

theorem ne_off {b o o' : Nat} (h : o ≠ o') : (⟨b, o, none⟩ : Addr) ≠ ⟨b, o', none⟩ := fun e => h (congrArg Addr.off e)

theorem cell_other {w : World} {a b : Addr} {v u : Value} (h : a ≠ b) (hc : w.cell? b = some u) : (w.setCell a v).cell? b = some u := by
  rw [World.cell?_setCell_other (h := h)]; exact hc

theorem cell_same {w : World} {a : Addr} {v u : Value} (hc : w.cell? a = some u) : (w.setCell a v).cell? a = some v := by
  rw [World.cell?_setCell_same (h := hc)]

/-- The seven cells at the head of a block. -/
theorem InsAt.head {w : World} {b : Nat} {v : IV} (h : InsAt w b 0 v) : w.cell? ⟨b, 0, none⟩ = some (.int .i64 v.op) ∧ w.cell? ⟨b, 1, none⟩ = some (.int .i64 v.ty) ∧ w.cell? ⟨b, 2, none⟩ = some (.int .i64 v.to) ∧ w.cell? ⟨b, 3, none⟩ = some (.int .i64 v.sym) ∧ w.cell? ⟨b, 4, none⟩ = some (.int .i64 v.num) ∧ w.cell? ⟨b, 5, none⟩ = some (.slice v.args.a v.args.n v.args.c) ∧ w.cell? ⟨b, 6, none⟩ = some (.slice v.into.a v.into.n v.into.c) :=
  ⟨h.c0, by simpa using h.c1, by simpa using h.c2, by simpa using h.c3, by simpa using h.c4, by simpa using h.c5, by simpa using h.c6⟩

theorem InsAt.alloc (w : World) (v : IV) : InsAt (w.alloc (.cells v.cells 39)) w.heap.size 0 v :=
  ⟨by simp, by simp, by simp, by simp, by simp, by simp, by simp⟩

/-- A row of the call's own: its block lies from base on and below top, none of its cells is frozen. -/
def Mine (base top : Nat) (w : World) (s : Sl) : Prop :=
  0 < s.n → ∃ g, s.a = some ⟨g, 0, none⟩ ∧ base ≤ g ∧ g < top ∧ ∀ i, w.frozen? ⟨g, i, none⟩ = false

theorem Mine.on {base top : Nat} {w w' : World} {s : Sl} (hb : Below w.heap.size w w') (ht : top ≤ w.heap.size) (h : Mine base top w s) : Mine base top w' s := fun h0 => by
  obtain ⟨g, h1, h2, h3, h4⟩ := h h0
  exact ⟨g, h1, h2, h3, fun i => by rw [hb.frozen (by show g < _; omega)]; exact h4 i⟩

theorem Mine.wide {base top base' top' : Nat} {w : World} {s : Sl} (h : Mine base top w s) (h1 : base' ≤ base) (h2 : top ≤ top') : Mine base' top' w s := fun h0 => by
  obtain ⟨g, a1, a2, a3, a4⟩ := h h0
  exact ⟨g, a1, by omega, by omega, a4⟩

/-- The blocks that p names are as they were; none was laid, none has gone. -/
structure Kept (p : Nat → Prop) (w w' : World) : Prop where
  size : w.heap.size ≤ w'.heap.size
  block : ∀ k, p k → w'.heap[k]? = w.heap[k]?

theorem Kept.refl (p : Nat → Prop) (w : World) : Kept p w w := ⟨Nat.le_refl _, fun _ _ => rfl⟩
theorem Kept.setCell {p : Nat → Prop} {w w' : World} (h : Kept p w w') {a : Addr} (ha : ¬ p a.block) (v : Value) : Kept p w (w'.setCell a v) :=
  ⟨by rw [World.size_setCell]; exact h.size, fun k hk => by rw [Below.heap_setCell _ _ _ _ (fun e => ha (e ▸ hk))]; exact h.block k hk⟩

theorem Ints.kept {p : Nat → Prop} {w w' : World} {s : Sl} {f : Nat → Int} (h : Ints w s f) (k : Kept p w w') (hp : ∀ b off, s.a = some ⟨b, off, none⟩ → 0 < s.n → p b) : Ints w' s f :=
  ⟨h.1, h.2.1, h.2.2.1, fun h0 => by
    obtain ⟨b, off, ha, hc⟩ := h.2.2.2 h0
    exact ⟨b, off, ha, fun i hi => by rw [World.cell?_of_block (w := w) (k.block b (hp b off ha h0))]; exact hc i hi⟩⟩

theorem cell_kept {p : Nat → Prop} {w w' : World} {a : Addr} {v : Value} (k : Kept p w w') (hp : p a.block) (h : w.cell? a = some v) : w'.cell? a = some v := by
  rw [World.cell?_of_block (w := w) (k.block _ hp)]; exact h

theorem InsAt.kept {p : Nat → Prop} {w w' : World} {b o : Nat} {v : IV} (h : InsAt w b o v) (k : Kept p w w') (hp : p b) : InsAt w' b o v :=
  ⟨cell_kept k hp h.c0, cell_kept k hp h.c1, cell_kept k hp h.c2, cell_kept k hp h.c3, cell_kept k hp h.c4, cell_kept k hp h.c5, cell_kept k hp h.c6⟩

theorem Mine.kept {p : Nat → Prop} {base top : Nat} {w w' : World} {s : Sl} (h : Mine base top w s) (k : Kept p w w') (hp : ∀ b, base ≤ b → b < top → p b) : Mine base top w' s := fun h0 => by
  obtain ⟨g, h1, h2, h3, h4⟩ := h h0
  exact ⟨g, h1, h2, h3, fun i => by rw [World.frozen?_of_block (w := w) (k.block g (hp g h2 h3))]; exact h4 i⟩

theorem Mine.ge {base top : Nat} {w : World} {s : Sl} (h : Mine base top w s) : ∀ b off, s.a = some ⟨b, off, none⟩ → 0 < s.n → base ≤ b ∧ b < top := fun b off ha h0 => by
  obtain ⟨g, h1, h2, h3, _⟩ := h h0
  rw [h1] at ha
  have := congrArg (fun x => x.map Addr.block) ha
  simp at this
  omega

theorem Ints.kept' {p : Nat → Prop} {base top : Nat} {w w' : World} {s : Sl} {f : Nat → Int} (h : Ints w s f) (m : Mine base top w s) (k : Kept p w w') (hp : ∀ b, base ≤ b → b < top → p b) : Ints w' s f :=
  h.kept k fun b off ha h0 => by have := m.ge b off ha h0; exact hp b this.1 this.2

theorem owns_on {w w' : World} {base : Nat} {e : TypeId} {size : Nat} {v : Value} {n : Nat} {xs : List Value} (hb : Below w.heap.size w w') (h : w.ownsRow base e size v n xs) : w'.ownsRow base e size v n xs := by
  refine ⟨h.1, ?_⟩
  rcases h.2 with h | ⟨g, cap, cur, h1, h2, h3, h4⟩
  · exact .inl h
  · exact .inr ⟨g, cap, cur, h1, h2, by rw [hb.block g (Array.getElem?_eq_some_iff.1 h3).1]; exact h3, h4⟩

theorem Ints.congr {w : World} {s : Sl} {f g : Nat → Int} (h : Ints w s f) (e : ∀ i, i < s.n → f i = g i) : Ints w s g :=
  ⟨h.1, h.2.1, h.2.2.1, fun h0 => by
    obtain ⟨b, off, ha, hc⟩ := h.2.2.2 h0
    exact ⟨b, off, ha, fun i hi => by rw [hc i hi, e i hi]⟩⟩

theorem results_cell {fn : Func} {p : Tmp} {ty : TypeId} (h : fn.results = #[.cell p ty]) (tmps : Array Value) (P : Program) (w : World) :
    (results fn tmps).run P w = ((asAddr (tmps.getD p undef)).run P w).andThen fun a w₁ => (loadVar ty a).run P w₁ := by
  simp only [results, h]
  simp [Sem.run_bind, Result.andThen]

end Go.Proofs.Ytnodofbpogcheaa.View

/-
  What the functions that only read a function of the module answer, as contracts of the translated code.
-/
namespace Go.Proofs.Ytnodofbpogcheaa.Rd
open Go.RowKit View

set_option linter.unusedVariables false

theorem gives_any (v : IV) (w : World) : Calls Try.prog 98 #[v.val] w fun e w' => e = .returned (.bool (v.ty != 0)) ∧ Below w.heap.size w w' := by
  go_enter Try.func98, Try.ntmps98
  go_wp2
  go_ret
  exact ⟨rfl, (Below.refl _ _).alloc (Nat.le_refl _) _⟩

theorem hid {p : Prop} (h : p) : Hid p := h

theorem upto {p : Nat → Prop} {k : Nat} (h : ∀ i, i < k → p i) (hk : p k) : ∀ i, i < k + 1 → p i := fun i hi => by
  rcases Nat.lt_or_eq_of_le (Nat.le_of_lt_succ hi) with h' | h'
  · exact h i h'
  · rw [h']; exact hk

/-- all of two rows of numbers alike -/
def Eqs (s t : Sl) (f g : Nat → Int) : Prop := s.n = t.n ∧ ∀ i, i < s.n → f i = g i

theorem below_drewN' (w : World) (q : Nat) : Below w.heap.size w (w.drewN q) := below_drewN (same w) q

def EqI (v u : IV) (a j a' j' : Nat → Int) : Prop :=
  v.op = u.op ∧ v.ty = u.ty ∧ v.to = u.to ∧ v.sym = u.sym ∧ v.num = u.num ∧ Eqs v.args u.args a a' ∧ Eqs v.into u.into j j'

set_option maxHeartbeats 1000000 in
theorem size_ir (F : FV) (w : World) (hF : In w F) (hl : Light F) :
    Calls Try.prog 107 #[F.val] w fun e w' => e = .returned (.int .i64 (cnt (fun j => (F.B j).n) F.blk.n)) ∧ Below w.heap.size w w' := by
  go_enter Try.func107, Try.ntmps107
  go_wp2
  go_loopw [3, 9] (fun s i wr => ∃ k : Nat, k ≤ F.blk.n ∧ i = .int .i64 k ∧ s = .int .i64 (cnt (fun j => (F.B j).n) k) ∧ Below w.heap.size w wr) (fun _ i _ => F.blk.n - (intOf i).toNat)
  case atStart => exact ⟨0, Nat.zero_le _, rfl, rfl, new (same w) _⟩
  case round =>
    obtain ⟨k, hk, rfl, rfl, hb⟩ := hrel
    have g1 := cnt_le (n := fun j => (F.B j).n) (m := 400) (j := k) (fun i hi => hl.ins i (by omega))
    have g4 := hl.blk
    by_cases hlt : k < F.blk.n
    · obtain ⟨b, o, hix, hck⟩ := (hF.blk.on hb).at hlt
      have g5 := hl.ins k hlt
      go_wp2
      go_round
      case rel => exact ⟨k + 1, by omega, by go_num, by simp [cnt], new hb _⟩
      case measure => simp [intOf]; omega
    · obtain rfl : k = F.blk.n := by omega
      go_wp2
      go_ret
      exact ⟨rfl, hb⟩

end Go.Proofs.Ytnodofbpogcheaa.Rd

/-
  Copies in new memory: what ir.copyList, copyIns, copyEach, copyBlock, copyFunc make.
-/
namespace Go.Proofs.Ytnodofbpogcheaa.Copy
open Go.RowKit View Rd

set_option linter.unusedVariables false

theorem info3 : (Try.prog.info? 3).map (fun i => (i.zero, i.size, i.bytes)) = some (some (.int .i64 0), 1, 8) := by kernel_rfl

/-- The numbers of a row, as a list. -/
def row (f : Nat → Int) (n : Nat) : List Int := (List.range n).map f

theorem row_length (f : Nat → Int) (n : Nat) : (row f n).length = n := by simp [row]

theorem row_cells {w : World} {ad : Addr} {n c : Nat} {f : Nat → Int} (h : Ints w ⟨some ad, n, c⟩ f) : ∀ j u, ((row f n).map (Value.int .i64))[j]? = some u → w.cell? (ad.add j) = some u := by
  intro j u hu
  have hj : j < n := by have := (List.getElem?_eq_some_iff.1 hu).1; simpa [row] using this
  obtain ⟨b, off, hab, hc⟩ := h.2.2.2 (by show 0 < n; omega)
  obtain rfl := Option.some.inj hab
  rw [Addr.add_lit, hc j hj, ← hu]
  simp [row, hj]

/-- What a row that was built by append is, as a slice of numbers. -/
theorem ints_of_owns {w : World} {base : Nat} {v : Value} {n : Nat} {xs : List Int} (h : w.ownsRow base 3 1 v n (xs.map (Value.int .i64))) (hn : n ≤ 1000000) :
    ∃ s : Sl, v = .slice s.a s.n s.c ∧ s.n = n ∧ Ints w s (fun i => xs.getD i 0) ∧ Mine base w.heap.size w s := by
  obtain ⟨hlen, h⟩ := h
  simp at hlen
  rcases h with ⟨rfl, rfl⟩ | ⟨g, cap, cur, rfl, hb, hg, hnc, hm, hs, ht⟩
  · exact ⟨⟨none, 0, 0⟩, rfl, rfl, ⟨Nat.le_refl _, Nat.zero_le _, fun _ => rfl, fun h => absurd h (by simp)⟩, fun h => absurd h (by simp)⟩
  · have hlt : g < w.heap.size := (Array.getElem?_eq_some_iff.1 hg).1
    refine ⟨⟨some ⟨g, 0, none⟩, n, cap⟩, rfl, rfl, ⟨hnc, by show n ≤ _; omega, fun h => by simp at h, fun h0 => ⟨g, 0, rfl, fun i hi => ?_⟩⟩, fun h0 => ⟨g, rfl, hb, hlt, fun i => ?_⟩⟩
    · rw [Nat.zero_add, cell_of_row w g i cur 3 (0, 0) hg]
      have h1 : (cur.toList.take (n * 1))[i]? = (xs.map (Value.int .i64))[i]? := by rw [ht]
      rw [List.getElem?_take, if_pos (by simpa using hi)] at h1
      simp at h1
      rw [h1]
      have : i < xs.length := by rw [hlen]; exact hi
      simp [List.getD, this]
    · simp [World.frozen?, hg]

/-- Numbers that came in, appended to a row of the call's own. -/
theorem append_in {ops : Array Oper} {rest : List Oper} {o : Oper} {a : Act} {Q : Exit → Act → World → Prop} {w : World} (hgd : o.guard = none) (s x : Operand)
    (ho : o.op = .call { callee := .builtin .append, args := #[s, x], argTypes := #[28, 28] })
    (base : Nat) (v : Value) (n : Nat) (xs : List Int) (hs : a.eval s = v) (hown : w.ownsRow base 3 1 v n (xs.map (Value.int .i64)))
    (sl : Sl) (f : Nat → Int) (hx : a.eval x = .slice sl.a sl.n sl.c) (hin : Ints w sl f)
    (hsm : n + sl.n ≤ 1000000) (hbase : base ≤ w.heap.size)
    (h : ∀ v' w', w'.ownsRow base 3 1 v' (n + sl.n) ((xs ++ row f sl.n).map (Value.int .i64)) → w.grownBy w' v.ownBlock → wpList Try.prog ops Q rest (a.put o.dst v') w') : wpList Try.prog ops Q (o :: rest) a w := by
  obtain ⟨i0, hi, hz0, hz1, hz2⟩ := info_parts info3
  obtain ⟨ao, m, c⟩ := sl
  cases ao with
  | some ad =>
    refine wpList_append_own w hgd s x 28 ho base 3 i0 (.int .i64 0) 1 8 underlying28 hi hz0 hz1 hz2 rfl (by decide) v n _ hs hown ad m c ((row f m).map (Value.int .i64)) hx (by simp [row_length]) (row_cells hin) (ints_oneCell _ _) (by simp only [maxLen] at *; omega) (by simp only at *; omega) hbase ?_
    intro v' w' h1 h2 _
    exact h v' w' (by rw [List.map_append]; exact h1) h2
  | none =>
    have hc0 := hin.2.2.1 rfl
    have hm0 := hin.1
    simp only at hc0 hm0
    subst hc0
    obtain rfl : m = 0 := by omega
    exact wpList_append_own_none hgd s x 28 ho base 3 i0 1 underlying28 hi v n _ hs hown hx (h v w (by simpa [row] using hown) (World.grownBy.refl _ _))

/-- An instruction's copy: its rows are new, the second behind the first. -/
structure Twin (base top : Nat) (w : World) (sa si : Sl) (v : IV) (a j : Nat → Int) : Prop where
  an : sa.n = v.args.n
  jn : si.n = v.into.n
  args : Ints w sa a
  into : Ints w si j
  ma : Mine base top w sa
  mj : Mine base top w si
  ord : ∀ g g', sa.a = some ⟨g, 0, none⟩ → si.a = some ⟨g', 0, none⟩ → 0 < sa.n → 0 < si.n → g < g'

theorem Twin.on {base top : Nat} {w w' : World} {sa si : Sl} {v : IV} {a j : Nat → Int} (hb : Below w.heap.size w w') (ht : top ≤ w.heap.size) (h : Twin base top w sa si v a j) : Twin base top w' sa si v a j :=
  ⟨h.an, h.jn, h.args.on hb, h.into.on hb, h.ma.on hb ht, h.mj.on hb ht, h.ord⟩

theorem Twin.kept {p : Nat → Prop} {base top : Nat} {w w' : World} {sa si : Sl} {v : IV} {a j : Nat → Int} (h : Twin base top w sa si v a j) (k : Kept p w w') (hp : ∀ b, base ≤ b → b < top → p b) : Twin base top w' sa si v a j :=
  ⟨h.an, h.jn, h.args.kept' h.ma k hp, h.into.kept' h.mj k hp, h.ma.kept k hp, h.mj.kept k hp, h.ord⟩

theorem Twin.wide {base top base' top' : Nat} {w : World} {sa si : Sl} {v : IV} {a j : Nat → Int} (h : Twin base top w sa si v a j) (h1 : base' ≤ base) (h2 : top ≤ top') : Twin base' top' w sa si v a j :=
  ⟨h.an, h.jn, h.args, h.into, h.ma.wide h1 h2, h.mj.wide h1 h2, h.ord⟩

/-- The cells of the first k. -/
def flat (f : Nat → IV) : Nat → List Value
  | 0 => []
  | k + 1 => flat f k ++ (f k).cells.toList

theorem flat_congr {f g : Nat → IV} : ∀ {k : Nat}, (∀ t, t < k → f t = g t) → flat f k = flat g k
  | 0, _ => rfl
  | k + 1, h => by rw [flat, flat, flat_congr (fun t ht => h t (by omega)), h k (by omega)]

/-- What a loop over a row of instructions has copied: k of n. -/
structure Rows (g k n : Nat) (w : World) (I : Nat → IV) (A J : Nat → Nat → Int) (sa si : Nat → Sl) (h : Nat → Nat) : Prop where
  own : w.ownsRow g 39 7 (.slice (some ⟨g, 0, none⟩) k n) k (flat (fun t => { I t with args := sa t, into := si t }) k)
  tw : ∀ t, t < k → Twin (h t) (h (t + 1)) w (sa t) (si t) (I t) (A t) (J t)
  up : ∀ t, t < k → h t ≤ h (t + 1)
  lo : g < h 0
  hi : h k ≤ w.heap.size

theorem mono_le {h : Nat → Nat} {k : Nat} (up : ∀ t, t < k → h t ≤ h (t + 1)) {a b : Nat} (hb : b ≤ k) (hab : a ≤ b) : h a ≤ h b := by
  induction b with
  | zero => obtain rfl : a = 0 := by omega
            exact Nat.le_refl _
  | succ b ih =>
    rcases Nat.lt_or_eq_of_le hab with h' | rfl
    · exact Nat.le_trans (ih (by omega) (by omega)) (up b (by omega))
    · exact Nat.le_refl _

theorem Rows.step {g k n : Nat} {w : World} {I : Nat → IV} {A J : Nat → Nat → Int} {sa si : Nat → Sl} {h : Nat → Nat} {ta ti : Sl} {H0 H1 : Nat}
    (hold : ∀ t, t < k → Twin (h t) (h (t + 1)) w (sa t) (si t) (I t) (A t) (J t)) (up : ∀ t, t < k → h t ≤ h (t + 1)) (lo : g < h 0) (hk : h k ≤ H0) (h01 : H0 ≤ H1) (h1 : H1 ≤ w.heap.size)
    (hn : Twin H0 H1 w ta ti (I k) (A k) (J k))
    (own : w.ownsRow g 39 7 (.slice (some ⟨g, 0, none⟩) (k + 1) n) (k + 1) (flat (fun t => { I t with args := sa t, into := si t }) k ++ ({ I k with args := ta, into := ti } : IV).cells.toList)) :
    ∃ (sa si : Nat → Sl) (h : Nat → Nat), Rows g (k + 1) n w I A J sa si h := by
  refine ⟨fun t => if t < k then sa t else ta, fun t => if t < k then si t else ti, fun t => if t ≤ k then h t else H1, ?_, ?_, ?_, ?_, ?_⟩
  · have e : flat (fun t => { I t with args := if t < k then sa t else ta, into := if t < k then si t else ti }) (k + 1) = flat (fun t => { I t with args := sa t, into := si t }) k ++ ({ I k with args := ta, into := ti } : IV).cells.toList := by
      rw [flat, flat_congr (g := fun t => { I t with args := sa t, into := si t }) (fun t ht => by simp [ht])]
      simp
    rw [e]; exact own
  · intro t ht
    rcases Nat.lt_or_eq_of_le (Nat.le_of_lt_succ ht) with h' | rfl
    · simp only [h', if_true, Nat.le_of_lt h', show t + 1 ≤ k from h']; exact hold t h'
    · simp only [Nat.lt_irrefl, if_false, Nat.le_refl, if_true, show ¬ t + 1 ≤ t by omega]; exact hn.wide hk (Nat.le_refl _)
  · intro t ht
    rcases Nat.lt_or_eq_of_le (Nat.le_of_lt_succ ht) with h' | rfl
    · simp only [if_true, Nat.le_of_lt h', show t + 1 ≤ k from h']; exact up t h'
    · simp only [Nat.le_refl, if_true, show ¬ t + 1 ≤ t by omega, if_false]; omega
  · simp only [Nat.zero_le, if_true]; exact lo
  · simp only [show ¬ k + 1 ≤ k by omega, if_false]; exact h1

end Go.Proofs.Ytnodofbpogcheaa.Copy

/-
  Copies in new memory, of blocks and of whole functions: ir.copyBlock, copyEach at Block, copyFunc.
-/
namespace Go.Proofs.Ytnodofbpogcheaa.Copy
open Go.RowKit View Rd

set_option linter.unusedVariables false

theorem owns_kept {p : Nat → Prop} {w w' : World} {base : Nat} {e : TypeId} {size g n c : Nat} {xs : List Value} (h : w.ownsRow base e size (.slice (some ⟨g, 0, none⟩) n c) n xs) (k : Kept p w w') (hp : p g) : w'.ownsRow base e size (.slice (some ⟨g, 0, none⟩) n c) n xs := by
  refine ⟨h.1, ?_⟩
  rcases h.2 with ⟨h, _⟩ | ⟨g', cap, cur, h1, h2, h3, h4⟩
  · simp at h
  · simp at h1
    obtain ⟨rfl, rfl⟩ := h1
    exact .inr ⟨g, c, cur, rfl, h2, by rw [k.block g hp]; exact h3, h4⟩

theorem Rows.on {g k n : Nat} {w w' : World} {I : Nat → IV} {A J : Nat → Nat → Int} {sa si : Nat → Sl} {h : Nat → Nat} (hb : Below w.heap.size w w') (r : Rows g k n w I A J sa si h) : Rows g k n w' I A J sa si h :=
  ⟨owns_on hb r.own, fun t ht => (r.tw t ht).on hb (Nat.le_trans (mono_le r.up (Nat.le_refl k) (by omega : t + 1 ≤ k)) r.hi), r.up, r.lo, Nat.le_trans r.hi hb.size⟩

theorem Rows.kept {p : Nat → Prop} {g k n : Nat} {w w' : World} {I : Nat → IV} {A J : Nat → Nat → Int} {sa si : Nat → Sl} {h : Nat → Nat} (r : Rows g k n w I A J sa si h) (kp : Kept p w w') (hp : ∀ b, g ≤ b → b < h k → p b) : Rows g k n w' I A J sa si h :=
  ⟨owns_kept r.own kp (hp g (Nat.le_refl _) (by have := r.lo; have := mono_le r.up (Nat.le_refl k) (Nat.zero_le k); omega)), fun t ht => (r.tw t ht).kept kp (fun b h1 h2 => hp b (by have := r.lo; have := mono_le r.up (by omega : t ≤ k) (Nat.zero_le t); omega) (by have := mono_le r.up (Nat.le_refl k) (by omega : t + 1 ≤ k); omega)), r.up, r.lo, Nat.le_trans r.hi kp.size⟩

/-- The blocks that a loop has copied: k of n. -/
structure BRows (G k n : Nat) (w : World) (B : Nat → Sl) (I : Nat → Nat → IV) (A J : Nat → Nat → Nat → Int) (gB : Nat → Nat) (sa si : Nat → Nat → Sl) (h : Nat → Nat → Nat) (H : Nat → Nat) : Prop where
  own : w.ownsRow G 37 1 (.slice (some ⟨G, 0, none⟩) k n) k ((List.range k).map fun j => .slice (some ⟨gB j, 0, none⟩) (B j).n (B j).n)
  rows : ∀ j, j < k → Rows (gB j) (B j).n (B j).n w (I j) (A j) (J j) (sa j) (si j) (h j)
  lows : ∀ j, j < k → H j ≤ gB j
  tops : ∀ j, j < k → h j (B j).n ≤ H (j + 1)
  lo : G < H 0
  hi : H k ≤ w.heap.size

theorem Rows.le {g k n : Nat} {w : World} {I : Nat → IV} {A J : Nat → Nat → Int} {sa si : Nat → Sl} {h : Nat → Nat} (r : Rows g k n w I A J sa si h) : g < h k := by
  have := r.lo; have := mono_le r.up (Nat.le_refl k) (Nat.zero_le k); omega

theorem BRows.up {G k n : Nat} {w : World} {B : Nat → Sl} {I : Nat → Nat → IV} {A J : Nat → Nat → Nat → Int} {gB : Nat → Nat} {sa si : Nat → Nat → Sl} {h : Nat → Nat → Nat} {H : Nat → Nat} (r : BRows G k n w B I A J gB sa si h H) : ∀ j, j < k → H j ≤ H (j + 1) := fun j hj => by
  have := r.lows j hj; have := r.tops j hj; have := (r.rows j hj).le; omega

theorem BRows.step {G k n : Nat} {w : World} {B : Nat → Sl} {I : Nat → Nat → IV} {A J : Nat → Nat → Nat → Int} {gB : Nat → Nat} {sa si : Nat → Nat → Sl} {h : Nat → Nat → Nat} {H : Nat → Nat} {g : Nat} {ta ti : Nat → Sl} {t : Nat → Nat} {H1 : Nat}
    (rows : ∀ j, j < k → Rows (gB j) (B j).n (B j).n w (I j) (A j) (J j) (sa j) (si j) (h j)) (lows : ∀ j, j < k → H j ≤ gB j) (tops : ∀ j, j < k → h j (B j).n ≤ H (j + 1)) (lo : G < H 0)
    (hk : H k ≤ g) (hr : Rows g (B k).n (B k).n w (I k) (A k) (J k) ta ti t) (h1 : t (B k).n ≤ H1) (h2 : H1 ≤ w.heap.size)
    (own : w.ownsRow G 37 1 (.slice (some ⟨G, 0, none⟩) (k + 1) n) (k + 1) (((List.range k).map fun j => .slice (some ⟨gB j, 0, none⟩) (B j).n (B j).n) ++ [.slice (some ⟨g, 0, none⟩) (B k).n (B k).n])) :
    ∃ (gB : Nat → Nat) (sa si : Nat → Nat → Sl) (h : Nat → Nat → Nat) (H : Nat → Nat), BRows G (k + 1) n w B I A J gB sa si h H := by
  refine ⟨fun j => if j < k then gB j else g, fun j => if j < k then sa j else ta, fun j => if j < k then si j else ti, fun j => if j < k then h j else t, fun j => if j ≤ k then H j else H1, ?_, ?_, ?_, ?_, ?_, ?_⟩
  · have e : ((List.range (k + 1)).map fun j => Value.slice (some ⟨if j < k then gB j else g, 0, none⟩) (B j).n (B j).n) = ((List.range k).map fun j => Value.slice (some ⟨gB j, 0, none⟩) (B j).n (B j).n) ++ [.slice (some ⟨g, 0, none⟩) (B k).n (B k).n] := by
      rw [List.range_succ, List.map_append]
      congr 1
      · exact List.map_congr_left fun j hj => by simp [List.mem_range.1 hj]
      · simp
    rw [e]; exact own
  · intro j hj
    rcases Nat.lt_or_eq_of_le (Nat.le_of_lt_succ hj) with h' | rfl
    · simp only [h', if_true]; exact rows j h'
    · simp only [Nat.lt_irrefl, if_false]; exact hr
  · intro j hj
    rcases Nat.lt_or_eq_of_le (Nat.le_of_lt_succ hj) with h' | rfl
    · simp only [h', if_true, Nat.le_of_lt h']; exact lows j h'
    · simp only [Nat.lt_irrefl, if_false, Nat.le_refl, if_true]; exact hk
  · intro j hj
    rcases Nat.lt_or_eq_of_le (Nat.le_of_lt_succ hj) with h' | rfl
    · simp only [h', if_true, show j + 1 ≤ k from h']; exact tops j h'
    · simp only [Nat.lt_irrefl, if_false, show ¬ j + 1 ≤ j by omega]; exact h1
  · simp only [Nat.zero_le, if_true]; exact lo
  · simp only [show ¬ k + 1 ≤ k by omega, if_false]; exact h2

theorem BRows.on {G k n : Nat} {w w' : World} {B : Nat → Sl} {I : Nat → Nat → IV} {A J : Nat → Nat → Nat → Int} {gB : Nat → Nat} {sa si : Nat → Nat → Sl} {h : Nat → Nat → Nat} {H : Nat → Nat} (hb : Below w.heap.size w w') (r : BRows G k n w B I A J gB sa si h H) : BRows G k n w' B I A J gB sa si h H :=
  ⟨owns_on hb r.own, fun j hj => (r.rows j hj).on hb, r.lows, r.tops, r.lo, Nat.le_trans r.hi hb.size⟩

theorem BRows.kept {p : Nat → Prop} {G k n : Nat} {w w' : World} {B : Nat → Sl} {I : Nat → Nat → IV} {A J : Nat → Nat → Nat → Int} {gB : Nat → Nat} {sa si : Nat → Nat → Sl} {h : Nat → Nat → Nat} {H : Nat → Nat} (r : BRows G k n w B I A J gB sa si h H) (kp : Kept p w w') (hp : ∀ b, G ≤ b → b < w.heap.size → p b) : BRows G k n w' B I A J gB sa si h H := by
  have hG : G < w.heap.size := (r.own.lt G rfl).2
  refine ⟨owns_kept r.own kp (hp G (Nat.le_refl _) hG), fun j hj => (r.rows j hj).kept kp fun b h1 h2 => ?_, r.lows, r.tops, r.lo, Nat.le_trans r.hi kp.size⟩
  have q1 := r.lo
  have q2 := mono_le r.up (show j ≤ k by omega) (Nat.zero_le j)
  have q3 := r.lows j hj
  have q4 := (r.rows j hj).hi
  exact hp b (by omega) (by omega)

/-- A function's five cells at the head of a block. -/
structure FuncAt (w : World) (b : Nat) (F : FV) : Prop where
  c0 : w.cell? ⟨b, 0, none⟩ = some (.string F.name)
  c1 : w.cell? ⟨b, 1, none⟩ = some (.bool F.out)
  c2 : w.cell? ⟨b, 2, none⟩ = some (.slice F.par.a F.par.n F.par.c)
  c3 : w.cell? ⟨b, 3, none⟩ = some (.int .i64 F.res)
  c4 : w.cell? ⟨b, 4, none⟩ = some (.slice F.blk.a F.blk.n F.blk.c)

abbrev fcells (F : FV) : Array Value := #[.string F.name, .bool F.out, .slice F.par.a F.par.n F.par.c, .int .i64 F.res, .slice F.blk.a F.blk.n F.blk.c]

theorem FuncAt.alloc (w : World) (F : FV) : FuncAt (w.alloc (.cells (fcells F) 33)) w.heap.size F := ⟨by simp, by simp, by simp, by simp, by simp⟩
theorem FuncAt.on {w w' : World} {b : Nat} {F : FV} (hb : Below w.heap.size w w') (h : FuncAt w b F) : FuncAt w' b F :=
  ⟨cell_on hb h.c0, cell_on hb h.c1, cell_on hb h.c2, cell_on hb h.c3, cell_on hb h.c4⟩
theorem FuncAt.kept {p : Nat → Prop} {w w' : World} {b : Nat} {F : FV} (h : FuncAt w b F) (k : Kept p w w') (hp : p b) : FuncAt w' b F :=
  ⟨cell_kept k hp h.c0, cell_kept k hp h.c1, cell_kept k hp h.c2, cell_kept k hp h.c3, cell_kept k hp h.c4⟩
theorem FuncAt.set2 {w : World} {b : Nat} {F : FV} (h : FuncAt w b F) (s : Sl) : FuncAt (w.setCell ⟨b, 2, none⟩ (.slice s.a s.n s.c)) b { F with par := s } :=
  ⟨cell_other (ne_off (by omega)) h.c0, cell_other (ne_off (by omega)) h.c1, cell_same h.c2, cell_other (ne_off (by omega)) h.c3, cell_other (ne_off (by omega)) h.c4⟩

abbrev fzero : FV := ⟨ByteArray.empty, false, ⟨none, 0, 0⟩, 0, ⟨none, 0, 0⟩, fun _ => 0, fun _ => ⟨none, 0, 0⟩, fun _ _ => IV.zero, fun _ _ _ => 0, fun _ _ _ => 0⟩

/-- The copy of a function. -/
abbrev twin (F : FV) (sp : Sl) (G : Nat) (gB : Nat → Nat) (sa si : Nat → Nat → Sl) : FV :=
  { F with par := sp, blk := ⟨some ⟨G, 0, none⟩, F.blk.n, F.blk.n⟩, B := fun j => ⟨some ⟨gB j, 0, none⟩, (F.B j).n, (F.B j).n⟩, I := fun j k => { F.I j k with args := sa j k, into := si j k } }

/-- A copy is handed back. -/
def Copied (F : FV) (w : World) (e : Ending) (w' : World) : Prop := ∃ (sp : Sl) (G : Nat) (gB : Nat → Nat) (sa si : Nat → Nat → Sl) (h : Nat → Nat → Nat) (H : Nat → Nat), e = .returned (twin F sp G gB sa si).val ∧ sp.n = F.par.n ∧ Ints w' sp F.P ∧ Mine w.heap.size G w' sp ∧ BRows G F.blk.n F.blk.n w' F.B F.I F.A F.J gB sa si h H ∧ w.heap.size ≤ G ∧ Below w.heap.size w w'

end Go.Proofs.Ytnodofbpogcheaa.Copy
