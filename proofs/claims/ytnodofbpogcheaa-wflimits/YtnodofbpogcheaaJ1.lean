/-
  SortF, Own, Phis, Num, Open, Light: laid together.
-/
import Derived.Test.YtnodofbpogcheaaSort
import Derived.Test.YtnodofbpogcheaaJ0
import Derived.Maps.OwnSet
import Derived.Maps.OwnOps
import Derived.Deep.Slices
import Derived.OpenShut
import Derived.SizedLaws
import Derived.ProofKit
/-
  The stable sort at twenty entries or fewer, and what it makes of a Phi's rows.
-/
namespace Go.Proofs.Ytnodofbpogcheaa.Srt
open Go.RowKit View Rd

set_option linter.unusedVariables false

def Sorted (w : World) (E n : Nat) (p q : Nat → Int) (e : Ending) (w' : World) : Prop := e = .returned (.tuple #[]) ∧ ∃ p' q', St w w' E n p q p' q' ∧ Rises q' n

/-- But for the blocks that p names, and new ones, memory is as it was. -/
structure Turn (p : Nat → Prop) (w w' : World) : Prop where
  os : w'.os = w.os
  tape : w'.tape = w.tape
  output : w'.output = w.output
  size : w.heap.size ≤ w'.heap.size
  block : ∀ k, k < w.heap.size → ¬ p k → w'.heap[k]? = w.heap[k]?
  froz : ∀ a : Addr, a.block < w.heap.size → w'.frozen? a = w.frozen? a

theorem Turn.refl (p : Nat → Prop) (w : World) : Turn p w w := ⟨rfl, rfl, rfl, Nat.le_refl _, fun _ _ _ => rfl, fun _ _ => rfl⟩
theorem Turn.of_below {p : Nat → Prop} {w w' : World} (h : Below w.heap.size w w') : Turn p w w' := ⟨h.os, h.tape, h.output, h.size, fun k hk _ => h.block k hk, fun a ha => h.frozen ha⟩
theorem Turn.below {p : Nat → Prop} {w a b : World} (h : Turn p w a) (k : Below a.heap.size a b) : Turn p w b :=
  ⟨k.os.trans h.os, k.tape.trans h.tape, k.output.trans h.output, Nat.le_trans h.size k.size, fun i hi hp => by rw [k.block i (Nat.lt_of_lt_of_le hi h.size)]; exact h.block i hi hp, fun x hx => by rw [k.frozen (Nat.lt_of_lt_of_le hx h.size)]; exact h.froz x hx⟩
theorem Turn.setCell {p : Nat → Prop} {w a : World} (h : Turn p w a) {x : Addr} (hx : p x.block ∨ w.heap.size ≤ x.block) (v : Value) : Turn p w (a.setCell x v) :=
  ⟨h.os, h.tape, h.output, by rw [World.size_setCell]; exact h.size, fun i hi hp => by rw [Below.heap_setCell _ _ _ _ (fun e => by subst e; rcases hx with hx | hx; exact hp hx; omega)]; exact h.block i hi hp, fun y hy => by rw [World.frozen?_setCell]; exact h.froz y hy⟩
theorem Turn.drew {p : Nat → Prop} {w a : World} (h : Turn p w a) : Turn p w a.drew := ⟨h.os, h.tape, h.output, h.size, h.block, h.froz⟩
theorem Turn.alloc {p : Nat → Prop} {w a : World} (h : Turn p w a) (o : Obj) : Turn p w (a.alloc o) := h.below (new (same _) _)
theorem Turn.grown {p : Nat → Prop} {w a b : World} {E : Nat} (h : Turn p w a) (k : a.grownBy b (some E)) (hE : w.heap.size ≤ E) : Turn p w b :=
  ⟨k.os.trans h.os, k.tape.trans h.tape, k.output.trans h.output, Nat.le_trans h.size k.size, fun i hi hp => by rw [k.block i (Nat.lt_of_lt_of_le hi h.size) (fun e => by have := Option.some.inj e; omega)]; exact h.block i hi hp, fun x hx => by rw [World.frozen?_of_block (w := a) (k.block x.block (Nat.lt_of_lt_of_le hx h.size) (fun e => by have := Option.some.inj e; omega))]; exact h.froz x hx⟩
theorem Turn.kept {p : Nat → Prop} {w w' : World} (h : Turn p w w') : Kept (fun k => k < w.heap.size ∧ ¬ p k) w w' := ⟨h.size, fun k hk => h.block k hk.1 hk.2⟩

theorem Turn.wide {p q : Nat → Prop} {w w' : World} (h : Turn p w w') (hpq : ∀ b, p b → q b) : Turn q w w' := ⟨h.os, h.tape, h.output, h.size, fun k hk hq => h.block k hk (fun hp => hq (hpq k hp)), h.froz⟩
theorem Turn.trans {p : Nat → Prop} {a b c : World} (h : Turn p a b) (k : Turn p b c) : Turn p a c :=
  ⟨k.os.trans h.os, k.tape.trans h.tape, k.output.trans h.output, Nat.le_trans h.size k.size, fun i hi hp => (k.block i (Nat.lt_of_lt_of_le hi h.size) hp).trans (h.block i hi hp), fun x hx => (k.froz x (Nat.lt_of_lt_of_le hx h.size)).trans (h.froz x hx)⟩

/-- In order by the second, of the same the first one first. -/
def StSort (a j a' j' : Nat → Int) (n : Nat) : Prop := Rises j' n ∧ ∀ c, sel c a' j' n = sel c a j n

def ent (a j : Nat → Int) : Nat → List Value
  | 0 => []
  | k + 1 => ent a j k ++ [.int .i64 (a k), .int .i64 (j k)]

theorem own_at {w : World} {s : Sl} {f : Nat → Int} (h : Ints w s f) {g : Nat} (hg : s.a = some ⟨g, 0, none⟩) {k : Nat} (hk : k < s.n) :
    (∀ wx, (Instr.indexAt 28 (.slice s.a s.n s.c) (.int .i64 k)).run Try.prog wx = .ok (.pointer (some ⟨g, k, none⟩)) wx) ∧ w.cell? ⟨g, k, none⟩ = some (.int .i64 (f k)) := by
  obtain ⟨b, off, ha, hc⟩ := h.2.2.2 (by omega)
  have e := hg.symm.trans ha
  simp at e
  obtain ⟨rfl, rfl⟩ := e
  exact ⟨by have := index_row hg underlying28 size3 hk; simpa using this, by simpa using hc k hk⟩

theorem own_set {w : World} {s : Sl} {f : Nat → Int} (h : Ints w s f) {g : Nat} (hg : s.a = some ⟨g, 0, none⟩) {k : Nat} (hk : k < s.n) (v : Int) : Ints (w.setCell ⟨g, k, none⟩ (.int .i64 v)) s (fun i => if i = k then v else f i) :=
  ⟨h.1, h.2.1, h.2.2.1, fun h0 => ⟨g, 0, hg, fun i hi => by
    simp only [Nat.zero_add]
    by_cases e : i = k
    · subst e; rw [if_pos rfl]; exact cell_same (own_at h hg hi).2
    · rw [if_neg e]; exact cell_other (ne_off (fun h => e h.symm)) (own_at h hg hi).2⟩⟩

def mix (k : Nat) (f g : Nat → Int) : Nat → Int := fun i => if i < k then f i else g i

/-- Two rows of the call's own, sorted together. -/
def Both (s t : Sl) (a j : Nat → Int) (w : World) (e : Ending) (w' : World) : Prop :=
  e = .returned (.tuple #[]) ∧ ∃ a' j', Ints w' s a' ∧ Ints w' t j' ∧ StSort a j a' j' s.n ∧ Turn (fun k => 0 < s.n ∧ ((∃ o, s.a = some ⟨k, o, none⟩) ∨ ∃ o, t.a = some ⟨k, o, none⟩)) w w'

end Go.Proofs.Ytnodofbpogcheaa.Srt

/-
  A function in memory of the call's own: every row in a block of its own; what stays when one of them is written.
-/
namespace Go.Proofs.Ytnodofbpogcheaa.Own
open Go.RowKit View Rd Copy Srt

set_option linter.unusedVariables false

/-- The rows of a function: a block's instructions, what one of them takes, where it goes. -/
inductive Id where
  | row (j : Nat)
  | arg (j k : Nat)
  | int (j k : Nat)

def sl (F : FV) : Id → Sl
  | .row j => F.B j
  | .arg j k => (F.I j k).args
  | .int j k => (F.I j k).into

def has (F : FV) : Id → Prop
  | .row j => j < F.blk.n
  | .arg j k => j < F.blk.n ∧ k < (F.B j).n
  | .int j k => j < F.blk.n ∧ k < (F.B j).n

structure Own (base : Nat) (w : World) (F : FV) (at_ : Id → Nat) : Prop where
  inn : In w F
  adr : ∀ x, has F x → 0 < (sl F x).n → (sl F x).a = some ⟨at_ x, 0, none⟩
  ge : ∀ x, has F x → 0 < (sl F x).n → base ≤ at_ x
  lt : ∀ x, has F x → 0 < (sl F x).n → at_ x < w.heap.size
  fz : ∀ x, has F x → 0 < (sl F x).n → ∀ i, w.frozen? ⟨at_ x, i, none⟩ = false
  sep : ∀ x y, has F x → has F y → 0 < (sl F x).n → 0 < (sl F y).n → at_ x = at_ y → x = y
  par : ∀ x, has F x → 0 < (sl F x).n → ∀ b o, F.par.a = some ⟨b, o, none⟩ → 0 < F.par.n → b ≠ at_ x
  blk : ∀ x, has F x → 0 < (sl F x).n → ∀ b o, F.blk.a = some ⟨b, o, none⟩ → 0 < F.blk.n → b ≠ at_ x
  pm : Mine base w.heap.size w F.par
  bm : Mine base w.heap.size w F.blk

def blkOf (s : Sl) : Nat := match s.a with | some a => a.block | none => 0

def atOf (gB : Nat → Nat) (sa si : Nat → Nat → Sl) : Id → Nat
  | .row j => gB j
  | .arg j k => blkOf (sa j k)
  | .int j k => blkOf (si j k)

theorem Own.on {base : Nat} {w w' : World} {F : FV} {at_ : Id → Nat} (hb : Below w.heap.size w w') (h : Own base w F at_) : Own base w' F at_ :=
  ⟨h.inn.on hb, h.adr, h.ge, fun x hx h0 => Nat.lt_of_lt_of_le (h.lt x hx h0) hb.size, fun x hx h0 i => by rw [hb.frozen (by exact h.lt x hx h0)]; exact h.fz x hx h0 i, h.sep, h.par, h.blk, (h.pm.on hb (Nat.le_refl _)).wide (Nat.le_refl _) hb.size, (h.bm.on hb (Nat.le_refl _)).wide (Nat.le_refl _) hb.size⟩

theorem mine_turn {p : Nat → Prop} {base : Nat} {w w' : World} {s : Sl} (h : Mine base w.heap.size w s) (t : Turn p w w') : Mine base w'.heap.size w' s := fun h0 => by
  obtain ⟨g, h1, h2, h3, h4⟩ := h h0
  exact ⟨g, h1, h2, Nat.lt_of_lt_of_le h3 t.size, fun i => by rw [t.froz _ h3]; exact h4 i⟩

def upd (f : Nat → Nat → Nat → Int) (j k : Nat) (g : Nat → Int) : Nat → Nat → Nat → Int := fun j' k' => if j' = j ∧ k' = k then g else f j' k'

theorem Sls_kept {p : Nat → Prop} {w w' : World} {s : Sl} {f : Nat → Sl} (h : Sls w s f) (k : Kept p w w') (hp : ∀ b off, s.a = some ⟨b, off, none⟩ → 0 < s.n → p b) : Sls w' s f :=
  ⟨h.1, h.2.1, h.2.2.1, fun h0 => by
    obtain ⟨b, off, ha, hc⟩ := h.2.2.2 h0
    exact ⟨b, off, ha, fun i hi => cell_kept k (hp b off ha h0) (hc i hi)⟩⟩

theorem Inss_kept {p : Nat → Prop} {w w' : World} {s : Sl} {f : Nat → IV} (h : Inss w s f) (k : Kept p w w') (hp : ∀ b off, s.a = some ⟨b, off, none⟩ → 0 < s.n → p b) : Inss w' s f :=
  ⟨h.1, h.2.1, h.2.2.1, fun h0 => by
    obtain ⟨b, off, ha, hc⟩ := h.2.2.2 h0
    exact ⟨b, off, ha, fun i hi => (hc i hi).kept k (hp b off ha h0)⟩⟩

/-- A cell that can be read lies in a block that is there. -/
theorem Ints_lt {w : World} {s : Sl} {f : Nat → Int} (h : Ints w s f) : ∀ b off, s.a = some ⟨b, off, none⟩ → 0 < s.n → b < w.heap.size := fun b off ha h0 => by
  obtain ⟨b', off', ha', hc⟩ := h.2.2.2 h0
  have e := ha.symm.trans ha'
  simp at e
  obtain ⟨rfl, rfl⟩ := e
  exact World.block_lt_of_cell? _ _ (hc 0 h0)
theorem Sls_lt {w : World} {s : Sl} {f : Nat → Sl} (h : Sls w s f) : ∀ b off, s.a = some ⟨b, off, none⟩ → 0 < s.n → b < w.heap.size := fun b off ha h0 => by
  obtain ⟨b', off', ha', hc⟩ := h.2.2.2 h0
  have e := ha.symm.trans ha'
  simp at e
  obtain ⟨rfl, rfl⟩ := e
  exact World.block_lt_of_cell? _ _ (hc 0 h0)
theorem Inss_lt {w : World} {s : Sl} {f : Nat → IV} (h : Inss w s f) : ∀ b off, s.a = some ⟨b, off, none⟩ → 0 < s.n → b < w.heap.size := fun b off ha h0 => by
  obtain ⟨b', off', ha', hc⟩ := h.2.2.2 h0
  have e := ha.symm.trans ha'
  simp at e
  obtain ⟨rfl, rfl⟩ := e
  exact World.block_lt_of_cell? _ _ (hc 0 h0).c0

theorem adr_inj {s : Sl} {g b o : Nat} (h : s.a = some ⟨g, 0, none⟩) (h' : s.a = some ⟨b, o, none⟩) : b = g := by
  have e := h'.symm.trans h
  simp at e
  exact e.1

/-- The two rows of one instruction are written. -/
theorem Own.rows {base : Nat} {w w' : World} {F : FV} {at_ : Id → Nat} (h : Own base w F at_) {p : Nat → Prop} (ht : Turn p w w') {j k : Nat} (hj : j < F.blk.n) (hk : k < (F.B j).n)
    (hp : ∀ b, p b → (b = at_ (.arg j k) ∧ 0 < (F.I j k).args.n) ∨ (b = at_ (.int j k) ∧ 0 < (F.I j k).into.n)) {a' j' : Nat → Int} (ia : Ints w' (F.I j k).args a') (ij : Ints w' (F.I j k).into j') :
    Own base w' { F with A := upd F.A j k a', J := upd F.J j k j' } at_ := by
  have kp := ht.kept
  have ha : has F (.arg j k) := ⟨hj, hk⟩
  have hi : has F (.int j k) := ⟨hj, hk⟩
  have off : ∀ x, has F x → 0 < (sl F x).n → x ≠ .arg j k → x ≠ .int j k → ¬ p (at_ x) := fun x hx h0 n1 n2 hpx => by
    rcases hp _ hpx with ⟨e, h1⟩ | ⟨e, h1⟩
    · exact n1 (h.sep x _ hx ha h0 h1 e)
    · exact n2 (h.sep x _ hx hi h0 h1 e)
  refine ⟨⟨?_, ?_, fun j1 h1 => ?_, fun j1 h1 k1 h2 => ?_, fun j1 h1 k1 h2 => ?_⟩, h.adr, h.ge, fun x hx h0 => Nat.lt_of_lt_of_le (h.lt x hx h0) ht.size, fun x hx h0 i => by rw [ht.froz _ (by exact h.lt x hx h0)]; exact h.fz x hx h0 i, h.sep, h.par, h.blk, mine_turn h.pm ht, mine_turn h.bm ht⟩
  · refine h.inn.par.kept kp fun b off ha' h0 => ⟨Ints_lt h.inn.par b off ha' h0, fun hpb => ?_⟩
    rcases hp _ hpb with ⟨e, h1⟩ | ⟨e, h1⟩
    · exact h.par _ ha h1 b off ha' h0 e
    · exact h.par _ hi h1 b off ha' h0 e
  · refine Sls_kept h.inn.blk kp fun b off ha' h0 => ⟨Sls_lt h.inn.blk b off ha' h0, fun hpb => ?_⟩
    rcases hp _ hpb with ⟨e, h1⟩ | ⟨e, h1⟩
    · exact h.blk _ ha h1 b off ha' h0 e
    · exact h.blk _ hi h1 b off ha' h0 e
  · refine Inss_kept (h.inn.ins j1 h1) kp fun b o ha' h0 => ⟨Inss_lt (h.inn.ins j1 h1) b o ha' h0, ?_⟩
    rw [adr_inj (h.adr (.row j1) h1 h0) ha']
    exact off (.row j1) h1 h0 (by simp) (by simp)
  · show Ints w' (F.I j1 k1).args (upd F.A j k a' j1 k1)
    unfold upd
    by_cases e : j1 = j ∧ k1 = k
    · rw [if_pos e, e.1, e.2]; exact ia
    · rw [if_neg e]
      refine (h.inn.args j1 h1 k1 h2).kept kp fun b o ha' h0 => ⟨Ints_lt (h.inn.args j1 h1 k1 h2) b o ha' h0, ?_⟩
      rw [adr_inj (h.adr (.arg j1 k1) ⟨h1, h2⟩ h0) ha']
      exact off (.arg j1 k1) ⟨h1, h2⟩ h0 (by simpa using e) (by simp)
  · show Ints w' (F.I j1 k1).into (upd F.J j k j' j1 k1)
    unfold upd
    by_cases e : j1 = j ∧ k1 = k
    · rw [if_pos e, e.1, e.2]; exact ij
    · rw [if_neg e]
      refine (h.inn.into j1 h1 k1 h2).kept kp fun b o ha' h0 => ⟨Ints_lt (h.inn.into j1 h1 k1 h2) b o ha' h0, ?_⟩
      rw [adr_inj (h.adr (.int j1 k1) ⟨h1, h2⟩ h0) ha']
      exact off (.int j1 k1) ⟨h1, h2⟩ h0 (by simp) (by simpa using e)

/-- Nothing from base on has turned. -/
theorem Own.far {base : Nat} {w w' : World} {F : FV} {at_ : Id → Nat} (h : Own base w F at_) {p : Nat → Prop} (t : Turn p w w') (hp : ∀ b, p b → b < base) : Own base w' F at_ := by
  have kp := t.kept
  refine ⟨⟨h.inn.par.kept kp fun b o ha h0 => ?_, Sls_kept h.inn.blk kp fun b o ha h0 => ?_, fun j hj => Inss_kept (h.inn.ins j hj) kp fun b o ha h0 => ?_, fun j hj k hk => (h.inn.args j hj k hk).kept kp fun b o ha h0 => ?_, fun j hj k hk => (h.inn.into j hj k hk).kept kp fun b o ha h0 => ?_⟩, h.adr, h.ge, fun x hx h0 => Nat.lt_of_lt_of_le (h.lt x hx h0) t.size, fun x hx h0 i => by rw [t.froz _ (by exact h.lt x hx h0)]; exact h.fz x hx h0 i, h.sep, h.par, h.blk, mine_turn h.pm t, mine_turn h.bm t⟩
  · exact ⟨(h.pm.ge b o ha h0).2, fun e => by have := hp b e; have := (h.pm.ge b o ha h0).1; omega⟩
  · exact ⟨(h.bm.ge b o ha h0).2, fun e => by have := hp b e; have := (h.bm.ge b o ha h0).1; omega⟩
  · have e := adr_inj (h.adr (.row j) hj h0) ha
    exact ⟨by rw [e]; exact h.lt (.row j) hj h0, fun q => by have := hp b q; have := h.ge (.row j) hj h0; omega⟩
  · have e := adr_inj (h.adr (.arg j k) ⟨hj, hk⟩ h0) ha
    exact ⟨by rw [e]; exact h.lt (.arg j k) ⟨hj, hk⟩ h0, fun q => by have := hp b q; have := h.ge (.arg j k) ⟨hj, hk⟩ h0; omega⟩
  · have e := adr_inj (h.adr (.int j k) ⟨hj, hk⟩ h0) ha
    exact ⟨by rw [e]; exact h.lt (.int j k) ⟨hj, hk⟩ h0, fun q => by have := hp b q; have := h.ge (.int j k) ⟨hj, hk⟩ h0; omega⟩

end Go.Proofs.Ytnodofbpogcheaa.Own

/-
  ir.sortPhis: each Phi's entries in order.
-/
namespace Go.Proofs.Ytnodofbpogcheaa.Own
open Go.RowKit View Rd Copy Srt

set_option linter.unusedVariables false

/-- What has become of an instruction's rows: in order if it is a Phi whose rows are as many. -/
def Put (v : IV) (a j a' j' : Nat → Int) : Prop :=
  if v.op = 26 ∧ v.args.n = v.into.n then StSort a j a' j' v.args.n else a' = a ∧ j' = j

/-- Done up to block b's instruction t, the others as they were. -/
def Upto (F : FV) (b t : Nat) (A J : Nat → Nat → Nat → Int) : Prop :=
  ∀ j, j < F.blk.n → ∀ k, k < (F.B j).n → if j < b ∨ j = b ∧ k < t then Put (F.I j k) (F.A j k) (F.J j k) (A j k) (J j k) else A j k = F.A j k ∧ J j k = F.J j k

theorem upd_same (f : Nat → Nat → Nat → Int) (j k : Nat) (g : Nat → Int) : upd f j k g j k = g := by simp [upd]
theorem upd_other (f : Nat → Nat → Nat → Int) {j k j' k' : Nat} (g : Nat → Int) (h : ¬ (j' = j ∧ k' = k)) : upd f j k g j' k' = f j' k' := by simp only [upd, if_neg h]

theorem Upto.start (F : FV) : Upto F 0 0 F.A F.J := fun j hj k hk => by simp

theorem Upto.skip {F : FV} {b t : Nat} {A J : Nat → Nat → Nat → Int} (h : Upto F b t A J) (hb : b < F.blk.n) (ht : t < (F.B b).n) (hp : Put (F.I b t) (F.A b t) (F.J b t) (F.A b t) (F.J b t)) : Upto F b (t + 1) A J := fun j hj k hk => by
  have := h j hj k hk
  by_cases e : j = b ∧ k = t
  · obtain ⟨rfl, rfl⟩ := e
    rw [if_neg (by omega)] at this
    rw [if_pos (by omega), this.1, this.2]; exact hp
  · by_cases e2 : j < b ∨ j = b ∧ k < t
    · rw [if_pos e2] at this; rw [if_pos (by omega)]; exact this
    · rw [if_neg e2] at this; rw [if_neg (by omega)]; exact this

theorem Upto.put {F : FV} {b t : Nat} {A J : Nat → Nat → Nat → Int} (h : Upto F b t A J) (hb : b < F.blk.n) (ht : t < (F.B b).n) {a' j' : Nat → Int} (hp : Put (F.I b t) (F.A b t) (F.J b t) a' j') : Upto F b (t + 1) (upd A b t a') (upd J b t j') := fun j hj k hk => by
  have := h j hj k hk
  by_cases e : j = b ∧ k = t
  · obtain ⟨rfl, rfl⟩ := e
    rw [if_pos (by omega), upd_same, upd_same]; exact hp
  · rw [upd_other _ _ e, upd_other _ _ e]
    by_cases e2 : j < b ∨ j = b ∧ k < t
    · rw [if_pos e2] at this; rw [if_pos (by omega)]; exact this
    · rw [if_neg e2] at this; rw [if_neg (by omega)]; exact this

theorem Upto.next {F : FV} {b : Nat} {A J : Nat → Nat → Nat → Int} (h : Upto F b (F.B b).n A J) : Upto F (b + 1) 0 A J := fun j hj k hk => by
  have := h j hj k hk
  by_cases e2 : j < b ∨ j = b ∧ k < (F.B b).n
  · rw [if_pos e2] at this; rw [if_pos (by omega)]; exact this
  · rw [if_neg e2] at this
    rw [if_neg (fun h => ?_)]
    · exact this
    · rcases h with h | h
      · rcases Nat.lt_or_eq_of_le (Nat.le_of_lt_succ h) with h' | rfl
        · exact e2 (.inl h')
        · exact e2 (.inr ⟨rfl, hk⟩)
      · omega

/-- The blocks of a function's rows. -/
def rowsOf (F : FV) (at_ : Id → Nat) (b : Nat) : Prop := ∃ x, has F x ∧ 0 < (sl F x).n ∧ b = at_ x

/-- What sortPhis leaves. -/
def Phis (base : Nat) (F : FV) (at_ : Id → Nat) (w : World) (e : Ending) (w' : World) : Prop :=
  e = .returned (.tuple #[]) ∧ ∃ A J, Own base w' { F with A := A, J := J } at_ ∧ Upto F F.blk.n 0 A J ∧ Turn (rowsOf F at_) w w'

end Go.Proofs.Ytnodofbpogcheaa.Own

/-
  The numbers of a function's values: the map that ir.newNumbers makes.
-/
namespace Go.Proofs.Ytnodofbpogcheaa.Num
open Go.RowKit View Rd Copy Srt Own
open Go.Maps (Keyed int_keyed keyOf_int_mk)

set_option linter.unusedVariables false

def W64 (n : Int) : Prop := -9223372036854775808 ≤ n ∧ n ≤ 9223372036854775807

theorem underlying3 : Try.prog.underlying 3 = some (.int .i64) := by kernel_rfl

theorem underlying61 : Try.prog.underlying 61 = some (.map 3 3) := by kernel_rfl

theorem law3 : Keyed Try.prog 3 := int_keyed underlying3

theorem zero3 (w : World) : (zeroValue 3).run Try.prog w = .ok (.int .i64 0) w := by kernel_rfl

theorem wf64 {n : Int} (h : W64 n) : (Lit.int .i64 n).wf = true := WalkArith.wf_i64 (by have := h.1; have := h.2; omega)

/-- Block B is a map of at most n entries that is m. -/
def MapIs (w : World) (B n : Nat) (m : Int → Option Int) : Prop :=
  ∃ D : DataW Unit, w.ownsMap Try.prog 3 (plainElem Try.prog 3) B n D ∧ ∀ v, Maps.has D (.int .i64 v) = (m v).isSome ∧ D.atKey (.int .i64 v) (.lit (.int .i64 0)) = .lit (.int .i64 ((m v).getD 0))

theorem MapIs.at_block {w w' : World} {B n : Nat} {m : Int → Option Int} (h : MapIs w B n m) (e : w'.heap[B]? = w.heap[B]?) : MapIs w' B n m := by
  obtain ⟨D, ⟨es, clock, hb, hr⟩, hv⟩ := h
  exact ⟨D, ⟨es, clock, by rw [e]; exact hb, hr⟩, hv⟩

theorem MapIs.lt {w : World} {B n : Nat} {m : Int → Option Int} (h : MapIs w B n m) : B < w.heap.size := by
  obtain ⟨D, ⟨es, clock, hb, hr⟩, hv⟩ := h
  exact (Array.getElem?_eq_some_iff.1 hb).1

theorem MapIs.on {w w' : World} {B n : Nat} {m : Int → Option Int} (hb : Below w.heap.size w w') (h : MapIs w B n m) : MapIs w' B n m := h.at_block (hb.block B h.lt)

theorem MapIs.congr {w : World} {B n n' : Nat} {m m' : Int → Option Int} (h : MapIs w B n m) (e : ∀ v, m v = m' v) (hn : n ≤ n') : MapIs w B n' m' := by
  obtain ⟨D, ⟨es, clock, hb, hr, hs, hd⟩, hv⟩ := h
  exact ⟨D, ⟨es, clock, hb, hr, Nat.le_trans hs hn, hd⟩, fun v => by rw [← e v]; exact hv v⟩

theorem MapIs.made (w : World) : MapIs (w.alloc (.map #[] 0)) w.heap.size 0 (fun _ => none) :=
  ⟨.map [], World.ownsMap_made _ _ _ _, fun v => ⟨rfl, rfl⟩⟩

theorem MapIs.look {w : World} {B n : Nat} {m : Int → Option Int} (h : MapIs w B n m) {v : Int} (hv : W64 v) : (Instr.lookup 61 (.map (some B)) (.int .i64 v) false).run Try.prog w = .ok (.int .i64 ((m v).getD 0)) w := by
  obtain ⟨D, ho, hm⟩ := h
  obtain ⟨c, hrun, hat, _⟩ := ho.lookup_int law3 underlying61 underlying3 (zero3 w) (keyOf_int_mk underlying3 (wf64 hv))
  rw [(hm v).2] at hat
  simp at hat
  rw [hat]; exact hrun

theorem MapIs.look_ok {w : World} {B n : Nat} {m : Int → Option Int} (h : MapIs w B n m) {v : Int} (hv : W64 v) : (Instr.lookup 61 (.map (some B)) (.int .i64 v) true).run Try.prog w = .ok (.tuple #[.int .i64 ((m v).getD 0), .bool (m v).isSome]) w := by
  obtain ⟨D, ho, hm⟩ := h
  obtain ⟨x, ps, hrun, hat⟩ := ho.look_ok law3 underlying61 (zero3 w) (plainElem_int underlying3 (by decide)) (keyOf_int_mk underlying3 (wf64 hv))
  obtain ⟨c, rfl, hc, _⟩ := plainElem_int_inv underlying3 hat
  have hc1 := congrArg Prod.fst hc
  simp only at hc1
  rw [(hm v).2] at hc1
  simp at hc1
  rw [hrun, (hm v).1, hc1]

/-- The parameters' own numbers. -/
def m0 (np : Nat) (v : Int) : Option Int := if 1 ≤ v ∧ v ≤ np then some v else none

def rowMap (m : Int → Option Int) (l : Nat) (f : Nat → IV) : Nat → Int → Option Int
  | 0 => m
  | k + 1 => fun v => if (f k).ty ≠ 0 ∧ rowMap m l f k (f k).to = none ∧ v = (f k).to then some ((l : Int) + giv f (k + 1)) else rowMap m l f k v

abbrev lastOf (F : FV) (j : Nat) : Nat := F.par.n + cnt (fun j => giv (F.I j) (F.B j).n) j

def allMap (F : FV) : Nat → Int → Option Int
  | 0 => m0 F.par.n
  | j + 1 => rowMap (allMap F j) (lastOf F j) (F.I j) (F.B j).n

/-- The numbers fit. -/
structure Rng (F : FV) : Prop where
  to : ∀ j, j < F.blk.n → ∀ k, k < (F.B j).n → W64 (F.I j k).to
  args : ∀ j, j < F.blk.n → ∀ k, k < (F.B j).n → ∀ i, i < (F.I j k).args.n → W64 (F.A j k i)

def Numbers (F : FV) (w : World) (e : Ending) (w' : World) : Prop :=
  ∃ n, e = .returned (.map (some (w.heap.size + 1))) ∧ MapIs w' (w.heap.size + 1) n (allMap F F.blk.n) ∧ Below w.heap.size w w'

end Go.Proofs.Ytnodofbpogcheaa.Num

/-
  What a function that comes in as an argument is in memory.
-/
namespace Go.Proofs.Ytnodofbpogcheaa.Opn
open Go.RowKit Go.Deep View Rd Num

set_option linter.unusedVariables false

variable {H : Type} {enc : TypeId × Value → H} {w : World}

noncomputable abbrev rd (enc : TypeId × Value → H) (w : World) (fuel t : Nat) (cs : List Value) : Option (DataW H × List MemPlace) := DataW.trod enc Try.prog w 0 (fun _ => true) true fuel t cs

/-- All that it weighs is within reach. -/
def Lgt (t : Nat) (d : DataW H) : Prop := ∀ n ∈ d.weights Try.prog t, n ≤ reachBytes

theorem Lgt.part {t : Nat} {fs : Array Field} {parts : List (DataW H)} (hu : Try.prog.underlying t = some (.struct fs)) (h : Lgt t (.agg parts)) {i : Nat} {f : Field} {d : DataW H} (hf : fs.toList[i]? = some f) (hd : parts[i]? = some d) : Lgt f.type d := fun n hn => by
  refine h n ?_
  simp only [DataW.weights, hu]
  exact DataW.weights_mem_each (by rw [List.getElem?_map, hf]; rfl) hd n hn

instance : Inhabited Sl := ⟨⟨none, 0, 0⟩⟩
instance : Inhabited IV := ⟨IV.zero⟩

/-- All numbers of a function fit. -/
structure Fits (F : FV) : Prop where
  res : W64 F.res
  par : ∀ i, i < F.par.n → W64 (F.P i)
  ins : ∀ j, j < F.blk.n → ∀ k, k < (F.B j).n → W64 (F.I j k).op ∧ W64 (F.I j k).ty ∧ W64 (F.I j k).to ∧ W64 (F.I j k).sym ∧ W64 (F.I j k).num
  args : ∀ j, j < F.blk.n → ∀ k, k < (F.B j).n → ∀ i, i < (F.I j k).args.n → W64 (F.A j k i)
  into : ∀ j, j < F.blk.n → ∀ k, k < (F.B j).n → ∀ i, i < (F.I j k).into.n → W64 (F.J j k i)

end Go.Proofs.Ytnodofbpogcheaa.Opn

/-
  Whether a function is light enough: the contract of plnkeep.Light.
-/
namespace Go.Proofs.Ytnodofbpogcheaa.Rd
open Go.RowKit View

set_option linter.unusedVariables false

/-- A bool that says so, and memory that has only grown. -/
def Ans (p : Bool → Prop) (w : World) (e : Ending) (w' : World) : Prop := ∃ r : Bool, e = .returned (.bool r) ∧ p r ∧ Below w.heap.size w w'

def Thin (F : FV) (j : Nat) : Prop := ∀ k, k < (F.B j).n → (F.I j k).args.n ≤ 20 ∧ (F.I j k).into.n ≤ 20

end Go.Proofs.Ytnodofbpogcheaa.Rd
