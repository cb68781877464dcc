/-
  View, Read, Copy, CopyF, Sort, SortF, Own, Phis, Num, Open, Light: laid together.
-/
import Derived.Test.YtolipafcoolpgaaGreatProg
import Derived.WalkKit
import Derived.ProofKit
import Derived.WalkSpells
import Derived.Deep.Light
import Derived.WalkSmall
import Derived.BigQuiet
import Derived.Deep.QuietTactic
import Derived.Deep.AppendLies
import Derived.Laws.AppendOwnNone
import Derived.Deep.RegionHeld3
import Derived.BigRegion
import Derived.Maps.OwnSet
import Derived.Maps.OwnOps
import Derived.Deep.Slices
import Derived.OpenShut
import Derived.SizedLaws
/-
  How a function of the module lies in memory: values, slices, cells; what stays when memory grows.
-/
namespace Go.Proofs.YtolipafcoolpgaaGreat.View
open Go.RowKit

theorem sP1 {α : Type} (l : List α) (i : Nat) (a : α) : l.toArray.setIfInBounds i a = (l.set i a).toArray := List.setIfInBounds_toArray l i a
theorem sP2 {α : Type} (x : α) (xs : List α) (a : α) : (x :: xs).set 0 a = a :: xs := rfl
theorem sP3 {α : Type} (x : α) (xs : List α) (n : Nat) (a : α) : (x :: xs).set (n + 1) a = x :: xs.set n a := rfl

structure Sl where
 a : Option Addr
 n : Nat
 c : Nat

structure IV where
 op : Int
 ty : Int
 to : Int
 sym : Int
 num : Int
 args : Sl
 into : Sl

abbrev IV.val (v : IV) : Value := .agg #[.int .i64 v.op, .int .i64 v.ty, .int .i64 v.to, .int .i64 v.sym, .int .i64 v.num, .slice v.args.a v.args.n v.args.c, .slice v.into.a v.into.n v.into.c]

structure FV where
 name : ByteArray
 out : Bool
 par : Sl
 res : Int
 blk : Sl
 P : Nat → Int
 B : Nat → Sl
 I : Nat → Nat → IV
 A : Nat → Nat → Nat → Int
 J : Nat → Nat → Nat → Int

abbrev FV.val (F : FV) : Value := .agg #[.string F.name, .bool F.out, .slice F.par.a F.par.n F.par.c, .int .i64 F.res, .slice F.blk.a F.blk.n F.blk.c]

def Ints (w : World) (s : Sl) (f : Nat → Int) : Prop :=
 s.n ≤ s.c ∧ s.n ≤ 140737488355328 ∧ (s.a = none → s.c = 0) ∧ (0 < s.n → ∃ b off, s.a = some ⟨b, off, none⟩ ∧ ∀ i, i < s.n → w.cell? ⟨b, off + i, none⟩ = some (.int .i64 (f i)))

def Sls (w : World) (s : Sl) (f : Nat → Sl) : Prop :=
 s.n ≤ s.c ∧ s.n ≤ 140737488355328 ∧ (s.a = none → s.c = 0) ∧ (0 < s.n → ∃ b off, s.a = some ⟨b, off, none⟩ ∧ ∀ i, i < s.n → w.cell? ⟨b, off + i, none⟩ = some (.slice (f i).a (f i).n (f i).c))

structure InsAt (w : World) (b o : Nat) (v : IV) : Prop where
 c0 : w.cell? ⟨b, o, none⟩ = some (.int .i64 v.op)
 c1 : w.cell? ⟨b, o + 1, none⟩ = some (.int .i64 v.ty)
 c2 : w.cell? ⟨b, o + 2, none⟩ = some (.int .i64 v.to)
 c3 : w.cell? ⟨b, o + 3, none⟩ = some (.int .i64 v.sym)
 c4 : w.cell? ⟨b, o + 4, none⟩ = some (.int .i64 v.num)
 c5 : w.cell? ⟨b, o + 5, none⟩ = some (.slice v.args.a v.args.n v.args.c)
 c6 : w.cell? ⟨b, o + 6, none⟩ = some (.slice v.into.a v.into.n v.into.c)

def Inss (w : World) (s : Sl) (f : Nat → IV) : Prop :=
 s.n ≤ s.c ∧ s.n ≤ 140737488355328 ∧ (s.a = none → s.c = 0) ∧ (0 < s.n → ∃ b off, s.a = some ⟨b, off, none⟩ ∧ ∀ i, i < s.n → InsAt w b (off + i * 7) (f i))

structure In (w : World) (F : FV) : Prop where
 par : Ints w F.par F.P
 blk : Sls w F.blk F.B
 ins : ∀ j, j < F.blk.n → Inss w (F.B j) (F.I j)
 args : ∀ j, j < F.blk.n → ∀ k, k < (F.B j).n → Ints w (F.I j k).args (F.A j k)
 into : ∀ j, j < F.blk.n → ∀ k, k < (F.B j).n → Ints w (F.I j k).into (F.J j k)

theorem cell_on {w w' : World} {a : Addr} {v : Value} (hb : Below w.heap.size w w') (h : w.cell? a = some v) : w'.cell? a = some v := by
 rw [hb.cell (World.block_lt_of_cell? w a h)]; exact h

theorem Ints.on {w w' : World} {s : Sl} {f : Nat → Int} (hb : Below w.heap.size w w') (h : Ints w s f) : Ints w' s f :=
 ⟨h.1, h.2.1, h.2.2.1, fun h0 => by
  obtain ⟨b, off, ha, hc⟩ := h.2.2.2 h0
  exact ⟨b, off, ha, fun i hi => cell_on hb (hc i hi)⟩⟩

theorem Sls.on {w w' : World} {s : Sl} {f : Nat → Sl} (hb : Below w.heap.size w w') (h : Sls w s f) : Sls w' s f :=
 ⟨h.1, h.2.1, h.2.2.1, fun h0 => by
  obtain ⟨b, off, ha, hc⟩ := h.2.2.2 h0
  exact ⟨b, off, ha, fun i hi => cell_on hb (hc i hi)⟩⟩

theorem InsAt.on {w w' : World} {b o : Nat} {v : IV} (hb : Below w.heap.size w w') (h : InsAt w b o v) : InsAt w' b o v :=
 ⟨cell_on hb h.c0, cell_on hb h.c1, cell_on hb h.c2, cell_on hb h.c3, cell_on hb h.c4, cell_on hb h.c5, cell_on hb h.c6⟩

theorem Inss.on {w w' : World} {s : Sl} {f : Nat → IV} (hb : Below w.heap.size w w') (h : Inss w s f) : Inss w' s f :=
 ⟨h.1, h.2.1, h.2.2.1, fun h0 => by
  obtain ⟨b, off, ha, hc⟩ := h.2.2.2 h0
  exact ⟨b, off, ha, fun i hi => (hc i hi).on hb⟩⟩

theorem In.on {w w' : World} {F : FV} (hb : Below w.heap.size w w') (h : In w F) : In w' F :=
 ⟨h.par.on hb, h.blk.on hb, fun j hj => (h.ins j hj).on hb, fun j hj k hk => (h.args j hj k hk).on hb, fun j hj k hk => (h.into j hj k hk).on hb⟩

theorem index_row {s : Sl} {b off : Nat} (ha : s.a = some ⟨b, off, none⟩) {T e z : Nat} (hT : Tryz.prog.underlying T = some (.slice e)) (hz : (Tryz.prog.info? e).map (fun i => i.size) = some z) {k : Nat} (hk : k < s.n) :
  ∀ wx, (Instr.indexAt T (.slice s.a s.n s.c) (.int .i64 k)).run Tryz.prog wx = .ok (.pointer (some ⟨b, off + k * z, none⟩)) wx := by
 intro wx
 have he : Tryz.prog.elem T = e := by unfold Program.elem; rw [hT]
 obtain ⟨i, hi, hi'⟩ := Option.map_eq_some_iff.1 hz
 rw [ha, run_indexAt_slice _ _ _ _ _ _ _ (by rw [he]; exact hT), if_pos ⟨by omega, by omega⟩, he]
 simp [sizeOf, typeInfo, hi, hi', Addr.add_lit]

theorem underlying33 : Tryz.prog.underlying 33 = some (.slice 3) := by kernel_rfl
theorem underlying34 : Tryz.prog.underlying 34 = some (.slice 40) := by kernel_rfl
theorem underlying38 : Tryz.prog.underlying 38 = some (.slice 43) := by kernel_rfl
theorem size3 : (Tryz.prog.info? 3).map (fun i => i.size) = some 1 := by kernel_rfl
theorem size40 : (Tryz.prog.info? 40).map (fun i => i.size) = some 1 := by kernel_rfl
theorem size43 : (Tryz.prog.info? 43).map (fun i => i.size) = some 7 := by kernel_rfl

theorem Ints.at {w : World} {s : Sl} {f : Nat → Int} (h : Ints w s f) {k : Nat} (hk : k < s.n) :
  ∃ b o, (∀ wx, (Instr.indexAt 33 (.slice s.a s.n s.c) (.int .i64 k)).run Tryz.prog wx = .ok (.pointer (some ⟨b, o, none⟩)) wx) ∧ w.cell? ⟨b, o, none⟩ = some (.int .i64 (f k)) := by
 obtain ⟨b, off, ha, hc⟩ := h.2.2.2 (by omega)
 exact ⟨b, off + k * 1, index_row ha underlying33 size3 hk, by rw [Nat.mul_one]; exact hc k hk⟩

theorem Sls.at {w : World} {s : Sl} {f : Nat → Sl} (h : Sls w s f) {k : Nat} (hk : k < s.n) :
  ∃ b o, (∀ wx, (Instr.indexAt 34 (.slice s.a s.n s.c) (.int .i64 k)).run Tryz.prog wx = .ok (.pointer (some ⟨b, o, none⟩)) wx) ∧ w.cell? ⟨b, o, none⟩ = some (.slice (f k).a (f k).n (f k).c) := by
 obtain ⟨b, off, ha, hc⟩ := h.2.2.2 (by omega)
 exact ⟨b, off + k * 1, index_row ha underlying34 size40 hk, by rw [Nat.mul_one]; exact hc k hk⟩

theorem Inss.at {w : World} {s : Sl} {f : Nat → IV} (h : Inss w s f) {k : Nat} (hk : k < s.n) :
  ∃ b o, (∀ wx, (Instr.indexAt 38 (.slice s.a s.n s.c) (.int .i64 k)).run Tryz.prog wx = .ok (.pointer (some ⟨b, o, none⟩)) wx) ∧ InsAt w b o (f k) := by
 obtain ⟨b, off, ha, hc⟩ := h.2.2.2 (by omega)
 exact ⟨b, off + k * 7, index_row ha underlying38 size43 hk, hc k hk⟩

def cnt (n : Nat → Nat) : Nat → Nat
 | 0 => 0
 | j + 1 => cnt n j + n j

theorem cnt_le {n : Nat → Nat} {m : Nat} : ∀ {j : Nat}, (∀ i, i < j → n i ≤ m) → cnt n j ≤ j * m
 | 0, _ => by simp [cnt]
 | j + 1, h => by
  have h1 := cnt_le (j := j) (fun i hi => h i (by omega))
  have h2 := h j (by omega)
  rw [cnt, Nat.add_mul]; omega

structure Light (F : FV) : Prop where
 all : cnt (fun j => (F.B j).n) F.blk.n ≤ 400
 name : F.name.size ≤ 40
 par : F.par.n ≤ 8
 blk : F.blk.n ≤ 48
 ins : ∀ j, j < F.blk.n → (F.B j).n ≤ 400
 args : ∀ j, j < F.blk.n → ∀ k, k < (F.B j).n → (F.I j k).args.n ≤ 20
 into : ∀ j, j < F.blk.n → ∀ k, k < (F.B j).n → (F.I j k).into.n ≤ 20

def giv (f : Nat → IV) : Nat → Nat
 | 0 => 0
 | k + 1 => giv f k + if (f k).ty != 0 then 1 else 0

theorem giv_le (f : Nat → IV) : ∀ k, giv f k ≤ k
 | 0 => Nat.le_refl _
 | k + 1 => by have := giv_le f k; rw [giv]; split <;> omega

theorem cnt_le2 {f g : Nat → Nat} {k : Nat} (h : ∀ t, t < k → f t ≤ g t) : cnt f k ≤ cnt g k := by
 induction k with
 | zero => exact Nat.le_refl _
 | succ k ih =>
  have h1 := ih (fun t ht => h t (by omega))
  have h2 := h k (by omega)
  simp only [cnt]; omega

theorem giv_all {F : FV} (hl : Light F) : cnt (fun j => giv (F.I j) (F.B j).n) F.blk.n ≤ 400 :=
 Nat.le_trans (cnt_le2 (fun _ _ => giv_le _ _)) hl.all

theorem more {w a b : World} (h : Below w.heap.size w a) (k : Below a.heap.size a b) : Below w.heap.size w b := h.trans (k.mono h.size)
theorem new {w a : World} (h : Below w.heap.size w a) (o : Obj) : Below w.heap.size w (a.alloc o) := h.alloc h.size o
theorem same (w : World) : Below w.heap.size w w := Below.refl _ _

abbrev IV.cells (v : IV) : Array Value := #[.int .i64 v.op, .int .i64 v.ty, .int .i64 v.to, .int .i64 v.sym, .int .i64 v.num, .slice v.args.a v.args.n v.args.c, .slice v.into.a v.into.n v.into.c]

abbrev IV.zero : IV := ⟨0, 0, 0, 0, 0, ⟨none, 0, 0⟩, ⟨none, 0, 0⟩⟩

theorem ne_off {b o o' : Nat} (h : o ≠ o') : (⟨b, o, none⟩ : Addr) ≠ ⟨b, o', none⟩ := fun e => h (congrArg Addr.off e)

theorem cell_other {w : World} {a b : Addr} {v u : Value} (h : a ≠ b) (hc : w.cell? b = some u) : (w.setCell a v).cell? b = some u := by
 rw [World.cell?_setCell_other (h := h)]; exact hc

theorem cell_same {w : World} {a : Addr} {v u : Value} (hc : w.cell? a = some u) : (w.setCell a v).cell? a = some v := by
 rw [World.cell?_setCell_same (h := hc)]

theorem InsAt.set5 {w : World} {b o : Nat} {v : IV} (h : InsAt w b o v) (s : Sl) : InsAt (w.setCell ⟨b, o + 5, none⟩ (.slice s.a s.n s.c)) b o { v with args := s } :=
 ⟨cell_other (ne_off (by omega)) h.c0, cell_other (ne_off (by omega)) h.c1, cell_other (ne_off (by omega)) h.c2, cell_other (ne_off (by omega)) h.c3, cell_other (ne_off (by omega)) h.c4, cell_same h.c5, cell_other (ne_off (by omega)) h.c6⟩

theorem InsAt.head {w : World} {b : Nat} {v : IV} (h : InsAt w b 0 v) : w.cell? ⟨b, 0, none⟩ = some (.int .i64 v.op) ∧ w.cell? ⟨b, 1, none⟩ = some (.int .i64 v.ty) ∧ w.cell? ⟨b, 2, none⟩ = some (.int .i64 v.to) ∧ w.cell? ⟨b, 3, none⟩ = some (.int .i64 v.sym) ∧ w.cell? ⟨b, 4, none⟩ = some (.int .i64 v.num) ∧ w.cell? ⟨b, 5, none⟩ = some (.slice v.args.a v.args.n v.args.c) ∧ w.cell? ⟨b, 6, none⟩ = some (.slice v.into.a v.into.n v.into.c) :=
 ⟨h.c0, by simpa using h.c1, by simpa using h.c2, by simpa using h.c3, by simpa using h.c4, by simpa using h.c5, by simpa using h.c6⟩

theorem InsAt.alloc (w : World) (v : IV) : InsAt (w.alloc (.cells v.cells 43)) w.heap.size 0 v :=
 ⟨by simp, by simp, by simp, by simp, by simp, by simp, by simp⟩

def Mine (base top : Nat) (w : World) (s : Sl) : Prop :=
 0 < s.n → ∃ g, s.a = some ⟨g, 0, none⟩ ∧ base ≤ g ∧ g < top ∧ ∀ i, w.frozen? ⟨g, i, none⟩ = false

theorem Mine.on {base top : Nat} {w w' : World} {s : Sl} (hb : Below w.heap.size w w') (ht : top ≤ w.heap.size) (h : Mine base top w s) : Mine base top w' s := fun h0 => by
 obtain ⟨g, h1, h2, h3, h4⟩ := h h0
 exact ⟨g, h1, h2, h3, fun i => by rw [hb.frozen (by show g < _; omega)]; exact h4 i⟩

theorem Mine.wide {base top base' top' : Nat} {w : World} {s : Sl} (h : Mine base top w s) (h1 : base' ≤ base) (h2 : top ≤ top') : Mine base' top' w s := fun h0 => by
 obtain ⟨g, a1, a2, a3, a4⟩ := h h0
 exact ⟨g, a1, by omega, by omega, a4⟩

structure Kept (p : Nat → Prop) (w w' : World) : Prop where
 size : w.heap.size ≤ w'.heap.size
 block : ∀ k, p k → w'.heap[k]? = w.heap[k]?

theorem Kept.refl (p : Nat → Prop) (w : World) : Kept p w w := ⟨Nat.le_refl _, fun _ _ => rfl⟩
theorem Kept.setCell {p : Nat → Prop} {w w' : World} (h : Kept p w w') {a : Addr} (ha : ¬ p a.block) (v : Value) : Kept p w (w'.setCell a v) :=
 ⟨by rw [World.size_setCell]; exact h.size, fun k hk => by rw [Below.heap_setCell _ _ _ _ (fun e => ha (e ▸ hk))]; exact h.block k hk⟩

theorem Ints.kept {p : Nat → Prop} {w w' : World} {s : Sl} {f : Nat → Int} (h : Ints w s f) (k : Kept p w w') (hp : ∀ b off, s.a = some ⟨b, off, none⟩ → 0 < s.n → p b) : Ints w' s f :=
 ⟨h.1, h.2.1, h.2.2.1, fun h0 => by
  obtain ⟨b, off, ha, hc⟩ := h.2.2.2 h0
  exact ⟨b, off, ha, fun i hi => by rw [World.cell?_of_block (w := w) (k.block b (hp b off ha h0))]; exact hc i hi⟩⟩

theorem cell_kept {p : Nat → Prop} {w w' : World} {a : Addr} {v : Value} (k : Kept p w w') (hp : p a.block) (h : w.cell? a = some v) : w'.cell? a = some v := by
 rw [World.cell?_of_block (w := w) (k.block _ hp)]; exact h

theorem InsAt.kept {p : Nat → Prop} {w w' : World} {b o : Nat} {v : IV} (h : InsAt w b o v) (k : Kept p w w') (hp : p b) : InsAt w' b o v :=
 ⟨cell_kept k hp h.c0, cell_kept k hp h.c1, cell_kept k hp h.c2, cell_kept k hp h.c3, cell_kept k hp h.c4, cell_kept k hp h.c5, cell_kept k hp h.c6⟩

theorem Mine.kept {p : Nat → Prop} {base top : Nat} {w w' : World} {s : Sl} (h : Mine base top w s) (k : Kept p w w') (hp : ∀ b, base ≤ b → b < top → p b) : Mine base top w' s := fun h0 => by
 obtain ⟨g, h1, h2, h3, h4⟩ := h h0
 exact ⟨g, h1, h2, h3, fun i => by rw [World.frozen?_of_block (w := w) (k.block g (hp g h2 h3))]; exact h4 i⟩

theorem Mine.ge {base top : Nat} {w : World} {s : Sl} (h : Mine base top w s) : ∀ b off, s.a = some ⟨b, off, none⟩ → 0 < s.n → base ≤ b ∧ b < top := fun b off ha h0 => by
 obtain ⟨g, h1, h2, h3, _⟩ := h h0
 rw [h1] at ha
 have := congrArg (fun x => x.map Addr.block) ha
 simp at this
 omega

theorem Ints.kept' {p : Nat → Prop} {base top : Nat} {w w' : World} {s : Sl} {f : Nat → Int} (h : Ints w s f) (m : Mine base top w s) (k : Kept p w w') (hp : ∀ b, base ≤ b → b < top → p b) : Ints w' s f :=
 h.kept k fun b off ha h0 => by have := m.ge b off ha h0; exact hp b this.1 this.2

theorem owns_on {w w' : World} {base : Nat} {e : TypeId} {size : Nat} {v : Value} {n : Nat} {xs : List Value} (hb : Below w.heap.size w w') (h : w.ownsRow base e size v n xs) : w'.ownsRow base e size v n xs := by
 refine ⟨h.1, ?_⟩
 rcases h.2 with h | ⟨g, cap, cur, h1, h2, h3, h4⟩
 ·exact .inl h
 ·exact .inr ⟨g, cap, cur, h1, h2, by rw [hb.block g (Array.getElem?_eq_some_iff.1 h3).1]; exact h3, h4⟩

theorem Ints.congr {w : World} {s : Sl} {f g : Nat → Int} (h : Ints w s f) (e : ∀ i, i < s.n → f i = g i) : Ints w s g :=
 ⟨h.1, h.2.1, h.2.2.1, fun h0 => by
  obtain ⟨b, off, ha, hc⟩ := h.2.2.2 h0
  exact ⟨b, off, ha, fun i hi => by rw [hc i hi, e i hi]⟩⟩

theorem results_cell {fn : Func} {p : Tmp} {ty : TypeId} (h : fn.results = #[.cell p ty]) (tmps : Array Value) (P : Program) (w : World) :
  (results fn tmps).run P w = ((asAddr (tmps.getD p undef)).run P w).andThen fun a w₁ => (loadVar ty a).run P w₁ := by
 simp only [results, h]
 simp [Sem.run_bind, Result.andThen]

end Go.Proofs.YtolipafcoolpgaaGreat.View

/-
  What the functions that only read a function of the module answer, as contracts of the translated code.
-/
namespace Go.Proofs.YtolipafcoolpgaaGreat.Rd
open Go.RowKit View

set_option linter.unusedVariables false

theorem gives_any (v : IV) (w : World) : Calls Tryz.prog 134 #[v.val] w fun e w' => e = .returned (.bool (v.ty != 0)) ∧ Below w.heap.size w w' := by
 go_enter Tryz.func134, Tryz.ntmps134
 go_wp2
 go_ret
 exact ⟨rfl, (Below.refl _ _).alloc (Nat.le_refl _) _⟩

theorem hid {p : Prop} (h : p) : Hid p := h

theorem upto {p : Nat → Prop} {k : Nat} (h : ∀ i, i < k → p i) (hk : p k) : ∀ i, i < k + 1 → p i := fun i hi => by
 rcases Nat.lt_or_eq_of_le (Nat.le_of_lt_succ hi) with h' | h'
 ·exact h i h'
 ·rw [h']; exact hk

def Eqs (s t : Sl) (f g : Nat → Int) : Prop := s.n = t.n ∧ ∀ i, i < s.n → f i = g i

set_option maxHeartbeats 1000000 in
theorem ints_any (s t : Sl) (f g : Nat → Int) (w : World) (hs : Ints w s f) (ht : Ints w t g) (hsm : s.n ≤ 1000) :
  Calls Tryz.prog 50 #[.slice s.a s.n s.c, .slice t.a t.n t.c] w fun e w' => ∃ r : Bool, e = .returned (.bool r) ∧ (r = true ↔ Eqs s t f g) ∧ ∃ q, w' = w.drewN q := by
 by_cases hn : s.n = t.n
 ·have hn' : ((s.n : Int) != (t.n : Int)) = false := by simp [hn]
  have HN : Hid (s.n = t.n) := hn
  clear hn
  go_enter Tryz.func50, Tryz.ntmps50
  go_wp2
  go_loopw [5] (fun i wr => ∃ k : Nat, k ≤ s.n ∧ i = .int .i64 k ∧ (∀ i, i < k → f i = g i) ∧ ∃ q, wr = w.drewN q) (fun i _ => s.n - (intOf i).toNat)
  case atStart => exact ⟨0, Nat.zero_le _, rfl, fun i hi => by omega, 0, rfl⟩
  case round =>
   obtain ⟨k, hk, rfl, hall, q, rfl⟩ := hrel
   have HA : Hid (∀ i, i < k → f i = g i) := hall
   clear hall
   by_cases hlt : k < s.n
   ·obtain ⟨b, o, hix, hc⟩ := hs.at hlt
    obtain ⟨b', o', hix', hc'⟩ := ht.at (k := k) (by have := HN.out; omega)
    go_wp2
    go_region
    by_cases hfg : f k = g k
    ·have hfg' : (f k != g k) = false := by simp [hfg]
     have HE := hid hfg
     clear hfg
     go_wp2
     go_round
     case rel => exact ⟨k + 1, by omega, by go_num, upto HA.out HE.out, q + 1, rfl⟩
     case measure => simp [intOf]; omega
    ·have hfg' : (f k != g k) = true := by simp [hfg]
     go_wp2
     go_ret
     exact ⟨false, rfl, by simp only [Bool.false_eq_true, false_iff]; intro h; exact hfg (h.2 k hlt), q + 1, rfl⟩
   ·obtain rfl : k = s.n := by omega
    go_wp2
    go_ret
    exact ⟨true, rfl, by simp only [true_iff]; exact ⟨HN.out, HA.out⟩, q, rfl⟩
 ·have hn' : ((s.n : Int) != (t.n : Int)) = true := by simp; omega
  go_enter Tryz.func50, Tryz.ntmps50
  go_wp2
  go_ret
  exact ⟨false, rfl, by simp [Eqs, hn], 0, rfl⟩

theorem below_drewN' (w : World) (q : Nat) : Below w.heap.size w (w.drewN q) := below_drewN (same w) q

def EqI (v u : IV) (a j a' j' : Nat → Int) : Prop :=
 v.op = u.op ∧ v.ty = u.ty ∧ v.to = u.to ∧ v.sym = u.sym ∧ v.num = u.num ∧ Eqs v.args u.args a a' ∧ Eqs v.into u.into j j'

set_option maxHeartbeats 1000000 in
theorem size_ref (F : FV) (w : World) (hF : In w F) (hl : Light F) :
  Calls Tryz.prog 34 #[F.val] w fun e w' => e = .returned (.int .i64 (cnt (fun j => (F.B j).n) F.blk.n)) ∧ Below w.heap.size w w' := by
 go_enter Tryz.func34, Tryz.ntmps34
 go_wp2
 go_loop [3, 4] (fun s i => ∃ k : Nat, k ≤ F.blk.n ∧ i = .int .i64 k ∧ s = .int .i64 (cnt (fun j => (F.B j).n) k)) (fun _ i => F.blk.n - (intOf i).toNat)
 case atStart => exact ⟨0, Nat.zero_le _, rfl, rfl⟩
 case round =>
  obtain ⟨k, hk, rfl, rfl⟩ := hrel
  have g1 := cnt_le (n := fun j => (F.B j).n) (m := 400) (j := k) (fun i hi => hl.ins i (by omega))
  have g4 := hl.blk
  by_cases hlt : k < F.blk.n
  ·obtain ⟨b, o, hix, hck⟩ := hF.blk.at hlt
   have hbl := World.block_lt_of_cell? _ _ hck
   have g5 := hl.ins k hlt
   go_wp2
   go_round
   case rel => exact ⟨k + 1, by omega, by go_num, by simp [cnt]⟩
   case measure => simp [intOf]; omega
  ·obtain rfl : k = F.blk.n := by omega
   go_wp2
   go_ret
   exact ⟨rfl, new (same w) _⟩

set_option maxHeartbeats 1000000 in
theorem size_ir (F : FV) (w : World) (hF : In w F) (hl : Light F) :
  Calls Tryz.prog 117 #[F.val] w fun e w' => e = .returned (.int .i64 (cnt (fun j => (F.B j).n) F.blk.n)) ∧ Below w.heap.size w w' := by
 go_enter Tryz.func117, Tryz.ntmps117
 go_wp2
 go_loopw [3, 9] (fun s i wr => ∃ k : Nat, k ≤ F.blk.n ∧ i = .int .i64 k ∧ s = .int .i64 (cnt (fun j => (F.B j).n) k) ∧ Below w.heap.size w wr) (fun _ i _ => F.blk.n - (intOf i).toNat)
 case atStart => exact ⟨0, Nat.zero_le _, rfl, rfl, new (same w) _⟩
 case round =>
  obtain ⟨k, hk, rfl, rfl, hb⟩ := hrel
  have g1 := cnt_le (n := fun j => (F.B j).n) (m := 400) (j := k) (fun i hi => hl.ins i (by omega))
  have g4 := hl.blk
  by_cases hlt : k < F.blk.n
  ·obtain ⟨b, o, hix, hck⟩ := (hF.blk.on hb).at hlt
   have g5 := hl.ins k hlt
   go_wp2
   go_round
   case rel => exact ⟨k + 1, by omega, by go_num, by simp [cnt], new hb _⟩
   case measure => simp [intOf]; omega
  ·obtain rfl : k = F.blk.n := by omega
   go_wp2
   go_ret
   exact ⟨rfl, hb⟩

end Go.Proofs.YtolipafcoolpgaaGreat.Rd

/-
  Copies in new memory: what ir.copyList, copyIns, copyEach, copyBlock, copyFunc make.
-/
namespace Go.Proofs.YtolipafcoolpgaaGreat.Copy
open Go.RowKit View Rd

set_option linter.unusedVariables false

theorem info3 : (Tryz.prog.info? 3).map (fun i => (i.zero, i.size, i.bytes)) = some (some (.int .i64 0), 1, 8) := by kernel_rfl

def row (f : Nat → Int) (n : Nat) : List Int := (List.range n).map f

theorem row_length (f : Nat → Int) (n : Nat) : (row f n).length = n := by simp [row]

theorem row_cells {w : World} {ad : Addr} {n c : Nat} {f : Nat → Int} (h : Ints w ⟨some ad, n, c⟩ f) : ∀ j u, ((row f n).map (Value.int .i64))[j]? = some u → w.cell? (ad.add j) = some u := by
 intro j u hu
 have hj : j < n := by have := (List.getElem?_eq_some_iff.1 hu).1; simpa [row] using this
 obtain ⟨b, off, hab, hc⟩ := h.2.2.2 (by show 0 < n; omega)
 obtain rfl := Option.some.inj hab
 rw [Addr.add_lit, hc j hj, ← hu]
 simp [row, hj]

theorem ints_of_owns {w : World} {base : Nat} {v : Value} {n : Nat} {xs : List Int} (h : w.ownsRow base 3 1 v n (xs.map (Value.int .i64))) (hn : n ≤ 1000000) :
  ∃ s : Sl, v = .slice s.a s.n s.c ∧ s.n = n ∧ Ints w s (fun i => xs.getD i 0) ∧ Mine base w.heap.size w s := by
 obtain ⟨hlen, h⟩ := h
 simp at hlen
 rcases h with ⟨rfl, rfl⟩ | ⟨g, cap, cur, rfl, hb, hg, hnc, hm, hs, ht⟩
 ·exact ⟨⟨none, 0, 0⟩, rfl, rfl, ⟨Nat.le_refl _, Nat.zero_le _, fun _ => rfl, fun h => absurd h (by simp)⟩, fun h => absurd h (by simp)⟩
 ·have hlt : g < w.heap.size := (Array.getElem?_eq_some_iff.1 hg).1
  refine ⟨⟨some ⟨g, 0, none⟩, n, cap⟩, rfl, rfl, ⟨hnc, by show n ≤ _; omega, fun h => by simp at h, fun h0 => ⟨g, 0, rfl, fun i hi => ?_⟩⟩, fun h0 => ⟨g, rfl, hb, hlt, fun i => ?_⟩⟩
  ·rw [Nat.zero_add, cell_of_row w g i cur 3 (0, 0) hg]
   have h1 : (cur.toList.take (n * 1))[i]? = (xs.map (Value.int .i64))[i]? := by rw [ht]
   rw [List.getElem?_take, if_pos (by simpa using hi)] at h1
   simp at h1
   rw [h1]
   have : i < xs.length := by rw [hlen]; exact hi
   simp [List.getD, this]
  ·simp [World.frozen?, hg]

theorem append_in {ops : Array Oper} {rest : List Oper} {o : Oper} {a : Act} {Q : Exit → Act → World → Prop} {w : World} (hgd : o.guard = none) (s x : Operand)
  (ho : o.op = .call { callee := .builtin .append, args := #[s, x], argTypes := #[33, 33] })
  (base : Nat) (v : Value) (n : Nat) (xs : List Int) (hs : a.eval s = v) (hown : w.ownsRow base 3 1 v n (xs.map (Value.int .i64)))
  (sl : Sl) (f : Nat → Int) (hx : a.eval x = .slice sl.a sl.n sl.c) (hin : Ints w sl f)
  (hsm : n + sl.n ≤ 1000000) (hbase : base ≤ w.heap.size)
  (h : ∀ v' w', w'.ownsRow base 3 1 v' (n + sl.n) ((xs ++ row f sl.n).map (Value.int .i64)) → w.grownBy w' v.ownBlock → wpList Tryz.prog ops Q rest (a.put o.dst v') w') : wpList Tryz.prog ops Q (o :: rest) a w := by
 obtain ⟨i0, hi, hz0, hz1, hz2⟩ := info_parts info3
 obtain ⟨ao, m, c⟩ := sl
 cases ao with
 | some ad =>
  refine wpList_append_own w hgd s x 33 ho base 3 i0 (.int .i64 0) 1 8 underlying33 hi hz0 hz1 hz2 rfl (by decide) v n _ hs hown ad m c ((row f m).map (Value.int .i64)) hx (by simp [row_length]) (row_cells hin) (ints_oneCell _ _) (by simp only [maxLen] at *; omega) (by simp only at *; omega) hbase ?_
  intro v' w' h1 h2 _
  exact h v' w' (by rw [List.map_append]; exact h1) h2
 | none =>
  have hc0 := hin.2.2.1 rfl
  have hm0 := hin.1
  simp only at hc0 hm0
  subst hc0
  obtain rfl : m = 0 := by omega
  exact wpList_append_own_none hgd s x 33 ho base 3 i0 1 underlying33 hi v n _ hs hown hx (h v w (by simpa [row] using hown) (World.grownBy.refl _ _))

theorem getD_row (f : Nat → Int) (n i : Nat) (hi : i < n) : (row f n).getD i 0 = f i := by
 simp [row, List.getD, hi]

structure Twin (base top : Nat) (w : World) (sa si : Sl) (v : IV) (a j : Nat → Int) : Prop where
 an : sa.n = v.args.n
 jn : si.n = v.into.n
 args : Ints w sa a
 into : Ints w si j
 ma : Mine base top w sa
 mj : Mine base top w si
 ord : ∀ g g', sa.a = some ⟨g, 0, none⟩ → si.a = some ⟨g', 0, none⟩ → 0 < sa.n → 0 < si.n → g < g'

def flat (f : Nat → IV) : Nat → List Value
 | 0 => []
 | k + 1 => flat f k ++ (f k).cells.toList

theorem flat_length (f : Nat → IV) : ∀ k, (flat f k).length = k * 7
 | 0 => rfl
 | k + 1 => by rw [flat, List.length_append, flat_length f k]; simp; omega

theorem flat_congr {f g : Nat → IV} : ∀ {k : Nat}, (∀ t, t < k → f t = g t) → flat f k = flat g k
 | 0, _ => rfl
 | k + 1, h => by rw [flat, flat, flat_congr (fun t ht => h t (by omega)), h k (by omega)]

theorem flat_at (f : Nat → IV) : ∀ k t c, t < k → c < 7 → (flat f k)[t * 7 + c]? = (f t).cells.toList[c]?
 | 0, t, c, h, _ => by omega
 | k + 1, t, c, h, hc => by
  rw [flat]
  rcases Nat.lt_or_eq_of_le (Nat.le_of_lt_succ h) with h' | rfl
  ·rw [List.getElem?_append_left (by rw [flat_length]; omega)]
   exact flat_at f k t c h' hc
  ·rw [List.getElem?_append_right (by rw [flat_length]; omega), flat_length]
   congr 1; omega

structure Rows (g k n : Nat) (w : World) (I : Nat → IV) (A J : Nat → Nat → Int) (sa si : Nat → Sl) (h : Nat → Nat) : Prop where
 own : w.ownsRow g 43 7 (.slice (some ⟨g, 0, none⟩) k n) k (flat (fun t => { I t with args := sa t, into := si t }) k)
 tw : ∀ t, t < k → Twin (h t) (h (t + 1)) w (sa t) (si t) (I t) (A t) (J t)
 up : ∀ t, t < k → h t ≤ h (t + 1)
 lo : g < h 0
 hi : h k ≤ w.heap.size

theorem info43 : (Tryz.prog.info? 43).map (fun i => (i.zero, i.size, i.bytes)) = some (some IV.zero.val, 7, 88) := by kernel_rfl

structure BRows (G k n : Nat) (w : World) (B : Nat → Sl) (I : Nat → Nat → IV) (A J : Nat → Nat → Nat → Int) (gB : Nat → Nat) (sa si : Nat → Nat → Sl) (h : Nat → Nat → Nat) (H : Nat → Nat) : Prop where
 own : w.ownsRow G 40 1 (.slice (some ⟨G, 0, none⟩) k n) k ((List.range k).map fun j => .slice (some ⟨gB j, 0, none⟩) (B j).n (B j).n)
 rows : ∀ j, j < k → Rows (gB j) (B j).n (B j).n w (I j) (A j) (J j) (sa j) (si j) (h j)
 lows : ∀ j, j < k → H j ≤ gB j
 tops : ∀ j, j < k → h j (B j).n ≤ H (j + 1)
 lo : G < H 0
 hi : H k ≤ w.heap.size

theorem info40 : (Tryz.prog.info? 40).map (fun i => (i.zero, i.size, i.bytes)) = some (some (.agg #[.slice none 0 0]), 1, 24) := by kernel_rfl

structure FuncAt (w : World) (b : Nat) (F : FV) : Prop where
 c0 : w.cell? ⟨b, 0, none⟩ = some (.string F.name)
 c1 : w.cell? ⟨b, 1, none⟩ = some (.bool F.out)
 c2 : w.cell? ⟨b, 2, none⟩ = some (.slice F.par.a F.par.n F.par.c)
 c3 : w.cell? ⟨b, 3, none⟩ = some (.int .i64 F.res)
 c4 : w.cell? ⟨b, 4, none⟩ = some (.slice F.blk.a F.blk.n F.blk.c)

abbrev fcells (F : FV) : Array Value := #[.string F.name, .bool F.out, .slice F.par.a F.par.n F.par.c, .int .i64 F.res, .slice F.blk.a F.blk.n F.blk.c]

theorem FuncAt.alloc (w : World) (F : FV) : FuncAt (w.alloc (.cells (fcells F) 36)) w.heap.size F := ⟨by simp, by simp, by simp, by simp, by simp⟩
theorem FuncAt.on {w w' : World} {b : Nat} {F : FV} (hb : Below w.heap.size w w') (h : FuncAt w b F) : FuncAt w' b F :=
 ⟨cell_on hb h.c0, cell_on hb h.c1, cell_on hb h.c2, cell_on hb h.c3, cell_on hb h.c4⟩
theorem FuncAt.kept {p : Nat → Prop} {w w' : World} {b : Nat} {F : FV} (h : FuncAt w b F) (k : Kept p w w') (hp : p b) : FuncAt w' b F :=
 ⟨cell_kept k hp h.c0, cell_kept k hp h.c1, cell_kept k hp h.c2, cell_kept k hp h.c3, cell_kept k hp h.c4⟩
theorem FuncAt.set2 {w : World} {b : Nat} {F : FV} (h : FuncAt w b F) (s : Sl) : FuncAt (w.setCell ⟨b, 2, none⟩ (.slice s.a s.n s.c)) b { F with par := s } :=
 ⟨cell_other (ne_off (by omega)) h.c0, cell_other (ne_off (by omega)) h.c1, cell_same h.c2, cell_other (ne_off (by omega)) h.c3, cell_other (ne_off (by omega)) h.c4⟩

abbrev fzero : FV := ⟨ByteArray.empty, false, ⟨none, 0, 0⟩, 0, ⟨none, 0, 0⟩, fun _ => 0, fun _ => ⟨none, 0, 0⟩, fun _ _ => IV.zero, fun _ _ _ => 0, fun _ _ _ => 0⟩

end Go.Proofs.YtolipafcoolpgaaGreat.Copy

/-
  Sorting a Phi's entries: cmp.Compare, insertion sort, the stable sort at twenty entries or fewer.
-/
namespace Go.Proofs.YtolipafcoolpgaaGreat.Srt
open Go.RowKit View Rd

set_option linter.unusedVariables false

def sel (c : Int) (p q : Nat → Int) : Nat → List Int
 | 0 => []
 | n + 1 => sel c p q n ++ if q n = c then [p n] else []

def Rises (q : Nat → Int) (n : Nat) : Prop := ∀ x y, x < y → y < n → q x ≤ q y

structure Turn (p : Nat → Prop) (w w' : World) : Prop where
 os : w'.os = w.os
 tape : w'.tape = w.tape
 output : w'.output = w.output
 size : w.heap.size ≤ w'.heap.size
 block : ∀ k, k < w.heap.size → ¬ p k → w'.heap[k]? = w.heap[k]?
 froz : ∀ a : Addr, a.block < w.heap.size → w'.frozen? a = w.frozen? a

theorem Turn.refl (p : Nat → Prop) (w : World) : Turn p w w := ⟨rfl, rfl, rfl, Nat.le_refl _, fun _ _ _ => rfl, fun _ _ => rfl⟩
theorem Turn.of_below {p : Nat → Prop} {w w' : World} (h : Below w.heap.size w w') : Turn p w w' := ⟨h.os, h.tape, h.output, h.size, fun k hk _ => h.block k hk, fun a ha => h.frozen ha⟩
theorem Turn.below {p : Nat → Prop} {w a b : World} (h : Turn p w a) (k : Below a.heap.size a b) : Turn p w b :=
 ⟨k.os.trans h.os, k.tape.trans h.tape, k.output.trans h.output, Nat.le_trans h.size k.size, fun i hi hp => by rw [k.block i (Nat.lt_of_lt_of_le hi h.size)]; exact h.block i hi hp, fun x hx => by rw [k.frozen (Nat.lt_of_lt_of_le hx h.size)]; exact h.froz x hx⟩
theorem Turn.setCell {p : Nat → Prop} {w a : World} (h : Turn p w a) {x : Addr} (hx : p x.block ∨ w.heap.size ≤ x.block) (v : Value) : Turn p w (a.setCell x v) :=
 ⟨h.os, h.tape, h.output, by rw [World.size_setCell]; exact h.size, fun i hi hp => by rw [Below.heap_setCell _ _ _ _ (fun e => by subst e; rcases hx with hx | hx; exact hp hx; omega)]; exact h.block i hi hp, fun y hy => by rw [World.frozen?_setCell]; exact h.froz y hy⟩
theorem Turn.drew {p : Nat → Prop} {w a : World} (h : Turn p w a) : Turn p w a.drew := ⟨h.os, h.tape, h.output, h.size, h.block, h.froz⟩
theorem Turn.alloc {p : Nat → Prop} {w a : World} (h : Turn p w a) (o : Obj) : Turn p w (a.alloc o) := h.below (new (same _) _)
theorem Turn.grown {p : Nat → Prop} {w a b : World} {E : Nat} (h : Turn p w a) (k : a.grownBy b (some E)) (hE : w.heap.size ≤ E) : Turn p w b :=
 ⟨k.os.trans h.os, k.tape.trans h.tape, k.output.trans h.output, Nat.le_trans h.size k.size, fun i hi hp => by rw [k.block i (Nat.lt_of_lt_of_le hi h.size) (fun e => by have := Option.some.inj e; omega)]; exact h.block i hi hp, fun x hx => by rw [World.frozen?_of_block (w := a) (k.block x.block (Nat.lt_of_lt_of_le hx h.size) (fun e => by have := Option.some.inj e; omega))]; exact h.froz x hx⟩
theorem Turn.kept {p : Nat → Prop} {w w' : World} (h : Turn p w w') : Kept (fun k => k < w.heap.size ∧ ¬ p k) w w' := ⟨h.size, fun k hk => h.block k hk.1 hk.2⟩

def StSort (a j a' j' : Nat → Int) (n : Nat) : Prop := Rises j' n ∧ ∀ c, sel c a' j' n = sel c a j n

theorem own_at {w : World} {s : Sl} {f : Nat → Int} (h : Ints w s f) {g : Nat} (hg : s.a = some ⟨g, 0, none⟩) {k : Nat} (hk : k < s.n) :
  (∀ wx, (Instr.indexAt 33 (.slice s.a s.n s.c) (.int .i64 k)).run Tryz.prog wx = .ok (.pointer (some ⟨g, k, none⟩)) wx) ∧ w.cell? ⟨g, k, none⟩ = some (.int .i64 (f k)) := by
 obtain ⟨b, off, ha, hc⟩ := h.2.2.2 (by omega)
 have e := hg.symm.trans ha
 simp at e
 obtain ⟨rfl, rfl⟩ := e
 exact ⟨by have := index_row hg underlying33 size3 hk; simpa using this, by simpa using hc k hk⟩

theorem own_set {w : World} {s : Sl} {f : Nat → Int} (h : Ints w s f) {g : Nat} (hg : s.a = some ⟨g, 0, none⟩) {k : Nat} (hk : k < s.n) (v : Int) : Ints (w.setCell ⟨g, k, none⟩ (.int .i64 v)) s (fun i => if i = k then v else f i) :=
 ⟨h.1, h.2.1, h.2.2.1, fun h0 => ⟨g, 0, hg, fun i hi => by
  simp only [Nat.zero_add]
  by_cases e : i = k
  ·subst e; rw [if_pos rfl]; exact cell_same (own_at h hg hi).2
  ·rw [if_neg e]; exact cell_other (ne_off (fun h => e h.symm)) (own_at h hg hi).2⟩⟩

end Go.Proofs.YtolipafcoolpgaaGreat.Srt

/-
  A function in memory of the call's own: every row in a block of its own; what stays when one of them is written.
-/
namespace Go.Proofs.YtolipafcoolpgaaGreat.Own
open Go.RowKit View Rd Copy Srt

set_option linter.unusedVariables false

inductive Id where
 | row (j : Nat)
 | arg (j k : Nat)
 | int (j k : Nat)

def sl (F : FV) : Id → Sl
 | .row j => F.B j
 | .arg j k => (F.I j k).args
 | .int j k => (F.I j k).into

def has (F : FV) : Id → Prop
 | .row j => j < F.blk.n
 | .arg j k => j < F.blk.n ∧ k < (F.B j).n
 | .int j k => j < F.blk.n ∧ k < (F.B j).n

structure Own (base : Nat) (w : World) (F : FV) (at_ : Id → Nat) : Prop where
 inn : In w F
 adr : ∀ x, has F x → 0 < (sl F x).n → (sl F x).a = some ⟨at_ x, 0, none⟩
 ge : ∀ x, has F x → 0 < (sl F x).n → base ≤ at_ x
 lt : ∀ x, has F x → 0 < (sl F x).n → at_ x < w.heap.size
 fz : ∀ x, has F x → 0 < (sl F x).n → ∀ i, w.frozen? ⟨at_ x, i, none⟩ = false
 sep : ∀ x y, has F x → has F y → 0 < (sl F x).n → 0 < (sl F y).n → at_ x = at_ y → x = y
 par : ∀ x, has F x → 0 < (sl F x).n → ∀ b o, F.par.a = some ⟨b, o, none⟩ → 0 < F.par.n → b ≠ at_ x
 blk : ∀ x, has F x → 0 < (sl F x).n → ∀ b o, F.blk.a = some ⟨b, o, none⟩ → 0 < F.blk.n → b ≠ at_ x
 pm : Mine base w.heap.size w F.par
 bm : Mine base w.heap.size w F.blk

def blkOf (s : Sl) : Nat := match s.a with | some a => a.block | none => 0

theorem blkOf_eq {s : Sl} {g o : Nat} (h : s.a = some ⟨g, o, none⟩) : blkOf s = g := by unfold blkOf; rw [h]

theorem Own.on {base : Nat} {w w' : World} {F : FV} {at_ : Id → Nat} (hb : Below w.heap.size w w') (h : Own base w F at_) : Own base w' F at_ :=
 ⟨h.inn.on hb, h.adr, h.ge, fun x hx h0 => Nat.lt_of_lt_of_le (h.lt x hx h0) hb.size, fun x hx h0 i => by rw [hb.frozen (by exact h.lt x hx h0)]; exact h.fz x hx h0 i, h.sep, h.par, h.blk, (h.pm.on hb (Nat.le_refl _)).wide (Nat.le_refl _) hb.size, (h.bm.on hb (Nat.le_refl _)).wide (Nat.le_refl _) hb.size⟩

theorem mine_turn {p : Nat → Prop} {base : Nat} {w w' : World} {s : Sl} (h : Mine base w.heap.size w s) (t : Turn p w w') : Mine base w'.heap.size w' s := fun h0 => by
 obtain ⟨g, h1, h2, h3, h4⟩ := h h0
 exact ⟨g, h1, h2, Nat.lt_of_lt_of_le h3 t.size, fun i => by rw [t.froz _ h3]; exact h4 i⟩

def upd (f : Nat → Nat → Nat → Int) (j k : Nat) (g : Nat → Int) : Nat → Nat → Nat → Int := fun j' k' => if j' = j ∧ k' = k then g else f j' k'

theorem Sls_kept {p : Nat → Prop} {w w' : World} {s : Sl} {f : Nat → Sl} (h : Sls w s f) (k : Kept p w w') (hp : ∀ b off, s.a = some ⟨b, off, none⟩ → 0 < s.n → p b) : Sls w' s f :=
 ⟨h.1, h.2.1, h.2.2.1, fun h0 => by
  obtain ⟨b, off, ha, hc⟩ := h.2.2.2 h0
  exact ⟨b, off, ha, fun i hi => cell_kept k (hp b off ha h0) (hc i hi)⟩⟩

theorem Inss_kept {p : Nat → Prop} {w w' : World} {s : Sl} {f : Nat → IV} (h : Inss w s f) (k : Kept p w w') (hp : ∀ b off, s.a = some ⟨b, off, none⟩ → 0 < s.n → p b) : Inss w' s f :=
 ⟨h.1, h.2.1, h.2.2.1, fun h0 => by
  obtain ⟨b, off, ha, hc⟩ := h.2.2.2 h0
  exact ⟨b, off, ha, fun i hi => (hc i hi).kept k (hp b off ha h0)⟩⟩

theorem Ints_lt {w : World} {s : Sl} {f : Nat → Int} (h : Ints w s f) : ∀ b off, s.a = some ⟨b, off, none⟩ → 0 < s.n → b < w.heap.size := fun b off ha h0 => by
 obtain ⟨b', off', ha', hc⟩ := h.2.2.2 h0
 have e := ha.symm.trans ha'
 simp at e
 obtain ⟨rfl, rfl⟩ := e
 exact World.block_lt_of_cell? _ _ (hc 0 h0)
theorem Sls_lt {w : World} {s : Sl} {f : Nat → Sl} (h : Sls w s f) : ∀ b off, s.a = some ⟨b, off, none⟩ → 0 < s.n → b < w.heap.size := fun b off ha h0 => by
 obtain ⟨b', off', ha', hc⟩ := h.2.2.2 h0
 have e := ha.symm.trans ha'
 simp at e
 obtain ⟨rfl, rfl⟩ := e
 exact World.block_lt_of_cell? _ _ (hc 0 h0)
theorem Inss_lt {w : World} {s : Sl} {f : Nat → IV} (h : Inss w s f) : ∀ b off, s.a = some ⟨b, off, none⟩ → 0 < s.n → b < w.heap.size := fun b off ha h0 => by
 obtain ⟨b', off', ha', hc⟩ := h.2.2.2 h0
 have e := ha.symm.trans ha'
 simp at e
 obtain ⟨rfl, rfl⟩ := e
 exact World.block_lt_of_cell? _ _ (hc 0 h0).c0

theorem adr_inj {s : Sl} {g b o : Nat} (h : s.a = some ⟨g, 0, none⟩) (h' : s.a = some ⟨b, o, none⟩) : b = g := by
 have e := h'.symm.trans h
 simp at e
 exact e.1

theorem Own.rows {base : Nat} {w w' : World} {F : FV} {at_ : Id → Nat} (h : Own base w F at_) {p : Nat → Prop} (ht : Turn p w w') {j k : Nat} (hj : j < F.blk.n) (hk : k < (F.B j).n)
  (hp : ∀ b, p b → (b = at_ (.arg j k) ∧ 0 < (F.I j k).args.n) ∨ (b = at_ (.int j k) ∧ 0 < (F.I j k).into.n)) {a' j' : Nat → Int} (ia : Ints w' (F.I j k).args a') (ij : Ints w' (F.I j k).into j') :
  Own base w' { F with A := upd F.A j k a', J := upd F.J j k j' } at_ := by
 have kp := ht.kept
 have ha : has F (.arg j k) := ⟨hj, hk⟩
 have hi : has F (.int j k) := ⟨hj, hk⟩
 have off : ∀ x, has F x → 0 < (sl F x).n → x ≠ .arg j k → x ≠ .int j k → ¬ p (at_ x) := fun x hx h0 n1 n2 hpx => by
  rcases hp _ hpx with ⟨e, h1⟩ | ⟨e, h1⟩
  ·exact n1 (h.sep x _ hx ha h0 h1 e)
  ·exact n2 (h.sep x _ hx hi h0 h1 e)
 refine ⟨⟨?_, ?_, fun j1 h1 => ?_, fun j1 h1 k1 h2 => ?_, fun j1 h1 k1 h2 => ?_⟩, h.adr, h.ge, fun x hx h0 => Nat.lt_of_lt_of_le (h.lt x hx h0) ht.size, fun x hx h0 i => by rw [ht.froz _ (by exact h.lt x hx h0)]; exact h.fz x hx h0 i, h.sep, h.par, h.blk, mine_turn h.pm ht, mine_turn h.bm ht⟩
 ·refine h.inn.par.kept kp fun b off ha' h0 => ⟨Ints_lt h.inn.par b off ha' h0, fun hpb => ?_⟩
  rcases hp _ hpb with ⟨e, h1⟩ | ⟨e, h1⟩
  ·exact h.par _ ha h1 b off ha' h0 e
  ·exact h.par _ hi h1 b off ha' h0 e
 ·refine Sls_kept h.inn.blk kp fun b off ha' h0 => ⟨Sls_lt h.inn.blk b off ha' h0, fun hpb => ?_⟩
  rcases hp _ hpb with ⟨e, h1⟩ | ⟨e, h1⟩
  ·exact h.blk _ ha h1 b off ha' h0 e
  ·exact h.blk _ hi h1 b off ha' h0 e
 ·refine Inss_kept (h.inn.ins j1 h1) kp fun b o ha' h0 => ⟨Inss_lt (h.inn.ins j1 h1) b o ha' h0, ?_⟩
  rw [adr_inj (h.adr (.row j1) h1 h0) ha']
  exact off (.row j1) h1 h0 (by simp) (by simp)
 ·show Ints w' (F.I j1 k1).args (upd F.A j k a' j1 k1)
  unfold upd
  by_cases e : j1 = j ∧ k1 = k
  ·rw [if_pos e, e.1, e.2]; exact ia
  ·rw [if_neg e]
   refine (h.inn.args j1 h1 k1 h2).kept kp fun b o ha' h0 => ⟨Ints_lt (h.inn.args j1 h1 k1 h2) b o ha' h0, ?_⟩
   rw [adr_inj (h.adr (.arg j1 k1) ⟨h1, h2⟩ h0) ha']
   exact off (.arg j1 k1) ⟨h1, h2⟩ h0 (by simpa using e) (by simp)
 ·show Ints w' (F.I j1 k1).into (upd F.J j k j' j1 k1)
  unfold upd
  by_cases e : j1 = j ∧ k1 = k
  ·rw [if_pos e, e.1, e.2]; exact ij
  ·rw [if_neg e]
   refine (h.inn.into j1 h1 k1 h2).kept kp fun b o ha' h0 => ⟨Ints_lt (h.inn.into j1 h1 k1 h2) b o ha' h0, ?_⟩
   rw [adr_inj (h.adr (.int j1 k1) ⟨h1, h2⟩ h0) ha']
   exact off (.int j1 k1) ⟨h1, h2⟩ h0 (by simp) (by simpa using e)

def Put (v : IV) (a j a' j' : Nat → Int) : Prop :=
 if v.op = 26 ∧ v.args.n = v.into.n then StSort a j a' j' v.args.n else a' = a ∧ j' = j

def Upto (F : FV) (b t : Nat) (A J : Nat → Nat → Nat → Int) : Prop :=
 ∀ j, j < F.blk.n → ∀ k, k < (F.B j).n → if j < b ∨ j = b ∧ k < t then Put (F.I j k) (F.A j k) (F.J j k) (A j k) (J j k) else A j k = F.A j k ∧ J j k = F.J j k

end Go.Proofs.YtolipafcoolpgaaGreat.Own

/-
  The numbers of a function's values: the map that ir.newNumbers makes.
-/
namespace Go.Proofs.YtolipafcoolpgaaGreat.Num
open Go.RowKit View Rd Copy Srt Own
open Go.Maps (Keyed int_keyed keyOf_int_mk)

set_option linter.unusedVariables false

def W64 (n : Int) : Prop := -9223372036854775808 ≤ n ∧ n ≤ 9223372036854775807

theorem underlying3 : Tryz.prog.underlying 3 = some (.int .i64) := by kernel_rfl

theorem law3 : Keyed Tryz.prog 3 := int_keyed underlying3

theorem zero3 (w : World) : (zeroValue 3).run Tryz.prog w = .ok (.int .i64 0) w := by kernel_rfl

theorem wf64 {n : Int} (h : W64 n) : (Lit.int .i64 n).wf = true := WalkArith.wf_i64 (by have := h.1; have := h.2; omega)

def m0 (np : Nat) (v : Int) : Option Int := if 1 ≤ v ∧ v ≤ np then some v else none

def rowMap (m : Int → Option Int) (l : Nat) (f : Nat → IV) : Nat → Int → Option Int
 | 0 => m
 | k + 1 => fun v => if (f k).ty ≠ 0 ∧ rowMap m l f k (f k).to = none ∧ v = (f k).to then some ((l : Int) + giv f (k + 1)) else rowMap m l f k v

abbrev lastOf (F : FV) (j : Nat) : Nat := F.par.n + cnt (fun j => giv (F.I j) (F.B j).n) j

def allMap (F : FV) : Nat → Int → Option Int
 | 0 => m0 F.par.n
 | j + 1 => rowMap (allMap F j) (lastOf F j) (F.I j) (F.B j).n

structure Rng (F : FV) : Prop where
 to : ∀ j, j < F.blk.n → ∀ k, k < (F.B j).n → W64 (F.I j k).to
 args : ∀ j, j < F.blk.n → ∀ k, k < (F.B j).n → ∀ i, i < (F.I j k).args.n → W64 (F.A j k i)

end Go.Proofs.YtolipafcoolpgaaGreat.Num

/-
  What a function that comes in as an argument is in memory.
-/
namespace Go.Proofs.YtolipafcoolpgaaGreat.Opn
open Go.RowKit Go.Deep View Rd Num

set_option linter.unusedVariables false

variable {H : Type} {enc : TypeId × Value → H} {w : World}

noncomputable abbrev rd (enc : TypeId × Value → H) (w : World) (fuel t : Nat) (cs : List Value) : Option (DataW H × List MemPlace) := DataW.trod enc Tryz.prog w 0 (fun _ => true) true fuel t cs

def Lgt (t : Nat) (d : DataW H) : Prop := ∀ n ∈ d.weights Tryz.prog t, n ≤ reachBytes

theorem weightsAll_mem {P : Program} {e : TypeId} : ∀ {l : List (DataW H)} {d : DataW H}, d ∈ l → ∀ n ∈ d.weights P e, n ∈ DataW.weightsAll P e l
 | x :: l, d, h, n, hn => by
  rw [DataW.weightsAll, List.mem_append]
  rcases List.mem_cons.1 h with rfl | h
  ·exact .inl hn
  ·exact .inr (weightsAll_mem h n hn)

theorem open_row {T e z by_ fuel : Nat} {cs : List Value} {x : DataW H × List MemPlace} (hT : Tryz.prog.underlying T = some (.slice e)) (hz : Tryz.prog.cellsOf e = z) (hz0 : 0 < z) (hby : Tryz.prog.bytesOf e = by_) (hb0 : 0 < by_)
  (h : rd enc w fuel T cs = some x) (hw : Lgt T x.1) :
  ∃ (s : Sl) (n b off : Nat) (D : Nat → DataW H) (Pl : Nat → List MemPlace), cs = [.slice s.a s.n s.c] ∧ s.n ≤ s.c ∧ s.n ≤ 140737488355328 ∧ (s.a = none → s.c = 0) ∧ (0 < s.n → s.a = some ⟨b, off, none⟩) ∧
   ∀ i, i < s.n → ∃ cs' : List Value, cs'.length = z ∧ (∀ c, c < z → w.cell? ⟨b, off + i * z + c, none⟩ = cs'[c]?) ∧ rd enc w n e cs' = some (D i, Pl i) ∧ Lgt e (D i) := by
 rcases open_slice hT h with ⟨rfl, rfl⟩ | ⟨a, len, cap, m, n, D, Pl, rfl, _, hlc, hcm, hm, rfl, hel⟩
 ·exact ⟨⟨none, 0, 0⟩, 0, 0, 0, fun _ => .nil, fun _ => [], rfl, Nat.le_refl _, Nat.zero_le _, fun _ => rfl, fun h => absurd h (by simp), fun i hi => absurd hi (by simp)⟩
 ·simp only [if_true] at hm
  subst hm
  rw [hz] at hel
  have hwt : (len + (m - len)) * by_ ≤ reachBytes := by
   have := hw ((len + (m - len)) * Tryz.prog.bytesOf e) (by simp [DataW.weights, hT])
   rw [hby] at this; exact this
  have hlen : len ≤ 140737488355328 := by
   have h1 : len ≤ (len + (m - len)) * by_ := Nat.le_trans (by omega : len ≤ len + (m - len)) (Nat.le_mul_of_pos_right _ hb0)
   unfold reachBytes at hwt
   omega
  have hD : ∀ i, i < len → Lgt e (D i) := fun i hi k hk => by
   refine hw k ?_
   simp only [DataW.weights, hT, List.mem_cons, List.mem_append]
   exact .inr (.inl (weightsAll_mem (List.mem_map.2 ⟨i, List.mem_range.2 hi, rfl⟩) k hk))
  obtain ⟨b, off, spot⟩ := a
  by_cases h0 : 0 < len
  ·have hspot : spot = none := by
    obtain ⟨cs', h1, _⟩ := hel 0 (by omega)
    obtain ⟨_, h2, h3⟩ := World.cells?_some h1
    have h4 := h3 0 hz0
    simp only [Nat.zero_mul, Addr.add, if_true] at h4
    have h5 : 0 < cs'.length := by omega
    rw [List.getElem?_eq_getElem h5] at h4
    simpa using World.cell?_spot h4
   subst hspot
   refine ⟨⟨some ⟨b, off, none⟩, len, m⟩, n, b, off, D, Pl, rfl, hlc, hlen, fun h => by simp at h, fun _ => rfl, fun i hi => ?_⟩
   obtain ⟨cs', h1, h2⟩ := hel i (by simp only at hi; omega)
   obtain ⟨_, h3, h4⟩ := World.cells?_some h1
   exact ⟨cs', h3, fun c hc => by have := h4 c hc; rw [Addr.add_lit, Addr.add_lit] at this; exact this, h2, hD i hi⟩
  ·exact ⟨⟨some ⟨b, off, spot⟩, len, m⟩, n, b, off, D, Pl, rfl, hlc, hlen, fun h => by simp at h, fun h => absurd h h0, fun i hi => absurd (Nat.lt_of_le_of_lt (Nat.zero_le _) hi) h0⟩

theorem w64_of {n : Int} (h : (Lit.int .i64 n).wf = true) : W64 n := by
 have := bounds_i64 h
 exact ⟨this.1, this.2⟩

theorem cells3 : Tryz.prog.cellsOf 3 = 1 := by kernel_rfl
theorem bytes3 : Tryz.prog.bytesOf 3 = 8 := by kernel_rfl

theorem open_intsV {fuel : Nat} {cs : List Value} {x : DataW H × List MemPlace} (h : rd enc w fuel 33 cs = some x) (hw : Lgt 33 x.1) :
  ∃ (s : Sl) (f : Nat → Int), cs = [.slice s.a s.n s.c] ∧ Ints w s f ∧ ∀ i, i < s.n → W64 (f i) := by
 obtain ⟨s, n, b, off, D, Pl, rfl, h1, h2, h3, h4, h5⟩ := open_row underlying33 cells3 (by decide) bytes3 (by decide) h hw
 obtain ⟨f, hf⟩ := choose_lt (α := Int) (n := s.n) (p := fun i v => w.cell? ⟨b, off + i, none⟩ = some (.int .i64 v) ∧ W64 v) (fun i hi => by
  obtain ⟨cs', c1, c2, c3, _⟩ := h5 i hi
  obtain ⟨v, rfl, _, hwf⟩ := DataW.trod_int underlying3 c3
  have := c2 0 (by decide)
  exact ⟨v, by simpa using this, w64_of hwf⟩)
 exact ⟨s, f, rfl, ⟨h1, h2, h3, fun h0 => ⟨b, off, h4 h0, fun i hi => (hf i hi).1⟩⟩, fun i hi => (hf i hi).2⟩

theorem cells43 : Tryz.prog.cellsOf 43 = 7 := by kernel_rfl
theorem bytes43 : Tryz.prog.bytesOf 43 = 88 := by kernel_rfl
theorem cells2 : Tryz.prog.cellsOf 2 = 1 := by kernel_rfl
theorem cells33 : Tryz.prog.cellsOf 33 = 1 := by kernel_rfl
theorem underlying2 : Tryz.prog.underlying 2 = some (.int .i64) := by kernel_rfl

theorem Lgt.part {t : Nat} {fs : Array Field} {parts : List (DataW H)} (hu : Tryz.prog.underlying t = some (.struct fs)) (h : Lgt t (.agg parts)) {i : Nat} {f : Field} {d : DataW H} (hf : fs.toList[i]? = some f) (hd : parts[i]? = some d) : Lgt f.type d := fun n hn => by
 refine h n ?_
 simp only [DataW.weights, hu]
 exact DataW.weights_mem_each (by rw [List.getElem?_map, hf]; rfl) hd n hn

theorem len1 {α : Type} {l : List α} (h : l.length = 1) : ∃ a, l = [a] := by
 match l, h with | [a], _ => exact ⟨a, rfl⟩
theorem len5 {α : Type} {l : List α} (h : l.length = 5) : ∃ a b c d e, l = [a, b, c, d, e] := by
 match l, h with | [a, b, c, d, e], _ => exact ⟨a, b, c, d, e, rfl⟩
theorem len7 {α : Type} {l : List α} (h : l.length = 7) : ∃ a b c d e f g, l = [a, b, c, d, e, f, g] := by
 match l, h with | [a, b, c, d, e, f, g], _ => exact ⟨a, b, c, d, e, f, g, rfl⟩

theorem open_insV {fuel : Nat} {cs : List Value} {x : DataW H × List MemPlace} (h : rd enc w fuel 43 cs = some x) (hw : Lgt 43 x.1) :
  ∃ (v : IV) (a j : Nat → Int), cs = v.cells.toList ∧ Ints w v.args a ∧ Ints w v.into j ∧ W64 v.op ∧ W64 v.ty ∧ W64 v.to ∧ W64 v.sym ∧ W64 v.num ∧ (∀ i, i < v.args.n → W64 (a i)) ∧ ∀ i, i < v.into.n → W64 (j i) := by
 obtain ⟨xs, n, _, rfl, hl, hx, hf⟩ := DataW.trod_struct Tryz.underlying43 h
 rw [cells43] at hl
 obtain ⟨c0, c1, c2, c3, c4, c5, c6, rfl⟩ := len7 hl
 obtain ⟨y0, y1, y2, y3, y4, y5, y6, rfl⟩ := len7 (show xs.length = 7 from hx)
 have f0 := hf 0 _ rfl
 have f1 := hf 1 _ rfl
 have f2 := hf 2 _ rfl
 have f3 := hf 3 _ rfl
 have f4 := hf 4 _ rfl
 have f5 := hf 5 _ rfl
 have f6 := hf 6 _ rfl
 have w5 : Lgt 33 y5.1 := Lgt.part Tryz.underlying43 hw (i := 5) rfl rfl
 have w6 : Lgt 33 y6.1 := Lgt.part Tryz.underlying43 hw (i := 6) rfl rfl
 simp [cells3, cells2, cells33] at f0 f1 f2 f3 f4 f5 f6
 obtain ⟨v0, e0, _, b0⟩ := DataW.trod_int underlying3 f0
 obtain ⟨v1, e1, _, b1⟩ := DataW.trod_int underlying3 f1
 obtain ⟨v2, e2, _, b2⟩ := DataW.trod_int underlying3 f2
 obtain ⟨v3, e3, _, b3⟩ := DataW.trod_int underlying3 f3
 obtain ⟨v4, e4, _, b4⟩ := DataW.trod_int underlying2 f4
 obtain ⟨sa, a, e5, i5, b5⟩ := open_intsV f5 w5
 obtain ⟨si, j, e6, i6, b6⟩ := open_intsV f6 w6
 simp at e0 e1 e2 e3 e4 e5 e6
 subst e0 e1 e2 e3 e4 e5 e6
 exact ⟨⟨v0, v1, v2, v3, v4, sa, si⟩, a, j, rfl, i5, i6, w64_of b0, w64_of b1, w64_of b2, w64_of b3, w64_of b4, b5, b6⟩

instance : Inhabited Sl := ⟨⟨none, 0, 0⟩⟩
instance : Inhabited IV := ⟨IV.zero⟩

theorem open_inss {fuel : Nat} {cs : List Value} {x : DataW H × List MemPlace} (h : rd enc w fuel 38 cs = some x) (hw : Lgt 38 x.1) :
  ∃ (s : Sl) (I : Nat → IV) (A J : Nat → Nat → Int), cs = [.slice s.a s.n s.c] ∧ Inss w s I ∧ ∀ k, k < s.n → Ints w (I k).args (A k) ∧ Ints w (I k).into (J k) ∧ W64 (I k).op ∧ W64 (I k).ty ∧ W64 (I k).to ∧ W64 (I k).sym ∧ W64 (I k).num ∧ (∀ i, i < (I k).args.n → W64 (A k i)) ∧ ∀ i, i < (I k).into.n → W64 (J k i) := by
 obtain ⟨s, n, b, off, D, Pl, rfl, h1, h2, h3, h4, h5⟩ := open_row underlying38 cells43 (by decide) bytes43 (by decide) h hw
 obtain ⟨f, hf⟩ := choose_lt (α := IV × (Nat → Int) × (Nat → Int)) (n := s.n) (p := fun i v => InsAt w b (off + i * 7) v.1 ∧ Ints w v.1.args v.2.1 ∧ Ints w v.1.into v.2.2 ∧ W64 v.1.op ∧ W64 v.1.ty ∧ W64 v.1.to ∧ W64 v.1.sym ∧ W64 v.1.num ∧ (∀ i, i < v.1.args.n → W64 (v.2.1 i)) ∧ ∀ i, i < v.1.into.n → W64 (v.2.2 i)) (fun i hi => by
  obtain ⟨cs', c1, c2, c3, c4⟩ := h5 i hi
  obtain ⟨v, a, j, rfl, hr⟩ := open_insV c3 c4
  exact ⟨(v, a, j), ⟨by simpa using c2 0 (by decide), c2 1 (by decide), c2 2 (by decide), c2 3 (by decide), c2 4 (by decide), c2 5 (by decide), c2 6 (by decide)⟩, hr⟩)
 exact ⟨s, fun k => (f k).1, fun k => (f k).2.1, fun k => (f k).2.2, rfl, ⟨h1, h2, h3, fun h0 => ⟨b, off, h4 h0, fun i hi => (hf i hi).1⟩⟩, fun k hk => (hf k hk).2⟩

theorem cells40 : Tryz.prog.cellsOf 40 = 1 := by kernel_rfl
theorem bytes40 : Tryz.prog.bytesOf 40 = 24 := by kernel_rfl
theorem cells38 : Tryz.prog.cellsOf 38 = 1 := by kernel_rfl
theorem cells36 : Tryz.prog.cellsOf 36 = 5 := by kernel_rfl
theorem cells34 : Tryz.prog.cellsOf 34 = 1 := by kernel_rfl
theorem cells9 : Tryz.prog.cellsOf 9 = 1 := by kernel_rfl
theorem cells4 : Tryz.prog.cellsOf 4 = 1 := by kernel_rfl

theorem open_blk {fuel : Nat} {cs : List Value} {x : DataW H × List MemPlace} (h : rd enc w fuel 40 cs = some x) (hw : Lgt 40 x.1) : ∃ n y, rd enc w n 38 cs = some y ∧ Lgt 38 y.1 := by
 obtain ⟨xs, n, _, rfl, hl, hx, hf⟩ := DataW.trod_struct Tryz.underlying40 h
 rw [cells40] at hl
 obtain ⟨c0, rfl⟩ := len1 hl
 obtain ⟨y0, rfl⟩ := len1 (show xs.length = 1 from hx)
 have f0 := hf 0 _ rfl
 have w0 : Lgt 38 y0.1 := Lgt.part Tryz.underlying40 hw (i := 0) rfl rfl
 simp [cells38] at f0
 exact ⟨n, y0, f0, w0⟩

structure Fits (F : FV) : Prop where
 res : W64 F.res
 par : ∀ i, i < F.par.n → W64 (F.P i)
 ins : ∀ j, j < F.blk.n → ∀ k, k < (F.B j).n → W64 (F.I j k).op ∧ W64 (F.I j k).ty ∧ W64 (F.I j k).to ∧ W64 (F.I j k).sym ∧ W64 (F.I j k).num
 args : ∀ j, j < F.blk.n → ∀ k, k < (F.B j).n → ∀ i, i < (F.I j k).args.n → W64 (F.A j k i)
 into : ∀ j, j < F.blk.n → ∀ k, k < (F.B j).n → ∀ i, i < (F.I j k).into.n → W64 (F.J j k i)

theorem open_func {fuel : Nat} {cs : List Value} {x : DataW H × List MemPlace} (h : rd enc w fuel 36 cs = some x) (hw : Lgt 36 x.1) :
  ∃ F : FV, cs = [.string F.name, .bool F.out, .slice F.par.a F.par.n F.par.c, .int .i64 F.res, .slice F.blk.a F.blk.n F.blk.c] ∧ In w F ∧ Fits F ∧ F.name.size ≤ maxLen := by
 obtain ⟨xs, n, _, rfl, hl, hx, hf⟩ := DataW.trod_struct Tryz.underlying36 h
 rw [cells36] at hl
 obtain ⟨c0, c1, c2, c3, c4, rfl⟩ := len5 hl
 obtain ⟨y0, y1, y2, y3, y4, rfl⟩ := len5 (show xs.length = 5 from hx)
 have f0 := hf 0 _ rfl
 have f1 := hf 1 _ rfl
 have f2 := hf 2 _ rfl
 have f3 := hf 3 _ rfl
 have f4 := hf 4 _ rfl
 have w2 : Lgt 33 y2.1 := Lgt.part Tryz.underlying36 hw (i := 2) rfl rfl
 have w4 : Lgt 34 y4.1 := Lgt.part Tryz.underlying36 hw (i := 4) rfl rfl
 simp [cells3, cells9, cells33, cells34, cells4] at f0 f1 f2 f3 f4
 obtain ⟨nm, e0, _, b0⟩ := DataW.trod_string Tryz.underlying9 f0
 obtain ⟨ou, e1, _⟩ := DataW.trod_bool Tryz.underlying4 f1
 obtain ⟨sp, P, e2, i2, b2⟩ := open_intsV f2 w2
 obtain ⟨re, e3, _, b3⟩ := DataW.trod_int underlying3 f3
 obtain ⟨sb, nb, b, off, D, Pl, e4, h1, h2, h3, h4, h5⟩ := open_row underlying34 cells40 (by decide) bytes40 (by decide) f4 w4
 simp at e0 e1 e2 e3 e4
 subst e0 e1 e2 e3 e4
 obtain ⟨f, hf⟩ := choose_lt (α := Sl × (Nat → IV) × (Nat → Nat → Int) × (Nat → Nat → Int)) (n := sb.n) (p := fun i v => w.cell? ⟨b, off + i, none⟩ = some (.slice v.1.a v.1.n v.1.c) ∧ Inss w v.1 v.2.1 ∧ ∀ k, k < v.1.n → Ints w (v.2.1 k).args (v.2.2.1 k) ∧ Ints w (v.2.1 k).into (v.2.2.2 k) ∧ W64 (v.2.1 k).op ∧ W64 (v.2.1 k).ty ∧ W64 (v.2.1 k).to ∧ W64 (v.2.1 k).sym ∧ W64 (v.2.1 k).num ∧ (∀ i, i < (v.2.1 k).args.n → W64 (v.2.2.1 k i)) ∧ ∀ i, i < (v.2.1 k).into.n → W64 (v.2.2.2 k i)) (fun i hi => by
  obtain ⟨cs', c1, c2, c3, c4⟩ := h5 i hi
  obtain ⟨m, y, d1, d2⟩ := open_blk c3 c4
  obtain ⟨s, I, A, J, rfl, hr⟩ := open_inss d1 d2
  exact ⟨(s, I, A, J), by simpa using c2 0 (by decide), hr⟩)
 refine ⟨⟨nm, ou, sp, re, sb, P, fun j => (f j).1, fun j => (f j).2.1, fun j => (f j).2.2.1, fun j => (f j).2.2.2⟩, rfl, ⟨i2, ⟨h1, h2, h3, fun h0 => ⟨b, off, h4 h0, fun i hi => (hf i hi).1⟩⟩, fun j hj => (hf j hj).2.1, fun j hj k hk => ((hf j hj).2.2 k hk).1, fun j hj k hk => ((hf j hj).2.2 k hk).2.1⟩, ⟨w64_of b3, b2, fun j hj k hk => ?_, fun j hj k hk => ?_, fun j hj k hk => ?_⟩, b0⟩
 ·obtain ⟨_, _, a1, a2, a3, a4, a5, _⟩ := (hf j hj).2.2 k hk
  exact ⟨a1, a2, a3, a4, a5⟩
 ·obtain ⟨_, _, _, _, _, _, _, a, _⟩ := (hf j hj).2.2 k hk
  exact a
 ·obtain ⟨_, _, _, _, _, _, _, _, a⟩ := (hf j hj).2.2 k hk
  exact a

end Go.Proofs.YtolipafcoolpgaaGreat.Opn

/-
  Whether a function is light enough: the contract of plnkeep.Light.
-/
namespace Go.Proofs.YtolipafcoolpgaaGreat.Rd
open Go.RowKit View

set_option linter.unusedVariables false

def Ans (p : Bool → Prop) (w : World) (e : Ending) (w' : World) : Prop := ∃ r : Bool, e = .returned (.bool r) ∧ p r ∧ Below w.heap.size w w'

def Thin (F : FV) (j : Nat) : Prop := ∀ k, k < (F.B j).n → (F.I j k).args.n ≤ 20 ∧ (F.I j k).into.n ≤ 20

theorem light_of {F : FV} (h1 : F.name.size ≤ 40) (h2 : F.par.n ≤ 8) (h3 : F.blk.n ≤ 48) (h4 : cnt (fun j => (F.B j).n) F.blk.n ≤ 400) (h5 : ∀ j, j < F.blk.n → Thin F j) : Light F := by
 have key : ∀ m, cnt (fun j => (F.B j).n) m ≤ 400 → ∀ j, j < m → (F.B j).n ≤ 400 := by
  intro m
  induction m with
  | zero => intro _ j hj; omega
  | succ m ih =>
   intro hm j hj
   rw [cnt] at hm
   rcases Nat.lt_or_eq_of_le (Nat.le_of_lt_succ hj) with h | h
   ·exact ih (by omega) j h
   ·rw [h]; omega
 exact ⟨h4, h1, h2, h3, key _ h4, fun j hj k hk => (h5 j hj k hk).1, fun j hj k hk => (h5 j hj k hk).2⟩

end Go.Proofs.YtolipafcoolpgaaGreat.Rd
