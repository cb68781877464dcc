/-
  Mod, Renum, Ty, ChkY: laid together.
-/
import Derived.Test.YtnodofbpogcheaaJ1
import Derived.Test.YtnodofbpogcheaaJ0
import Derived.Deep.OwnRows
/-
  How a module lies in memory: externs, globals, tables, functions.
-/
namespace Go.Proofs.Ytnodofbpogcheaa.Mod
open Go.RowKit Go.Deep View Rd Num Opn Copy

set_option linter.unusedVariables false

/-- An extern as it lies. -/
structure EV where
  name : ByteArray
  par : Sl
  res : Int

/-- A global, a table as they lie. -/
structure GV where
  name : ByteArray
  cel : Sl

structure MV where
  ext : Sl
  glo : Sl
  tab : Sl
  fns : Sl
  E : Nat → EV
  EP : Nat → Nat → Int
  G : Nat → GV
  GC : Nat → Nat → Int
  T : Nat → GV
  TF : Nat → Nat → Int
  F : Nat → FV

abbrev MV.val (M : MV) : Value := .agg #[.slice M.ext.a M.ext.n M.ext.c, .slice M.glo.a M.glo.n M.glo.c, .slice M.tab.a M.tab.n M.tab.c, .slice M.fns.a M.fns.n M.fns.c]

structure EAt (w : World) (b o : Nat) (v : EV) : Prop where
  c0 : w.cell? ⟨b, o, none⟩ = some (.string v.name)
  c1 : w.cell? ⟨b, o + 1, none⟩ = some (.slice v.par.a v.par.n v.par.c)
  c2 : w.cell? ⟨b, o + 2, none⟩ = some (.int .i64 v.res)

structure GAt (w : World) (b o : Nat) (v : GV) : Prop where
  c0 : w.cell? ⟨b, o, none⟩ = some (.string v.name)
  c1 : w.cell? ⟨b, o + 1, none⟩ = some (.slice v.cel.a v.cel.n v.cel.c)

structure FAt (w : World) (b o : Nat) (F : FV) : Prop where
  c0 : w.cell? ⟨b, o, none⟩ = some (.string F.name)
  c1 : w.cell? ⟨b, o + 1, none⟩ = some (.bool F.out)
  c2 : w.cell? ⟨b, o + 2, none⟩ = some (.slice F.par.a F.par.n F.par.c)
  c3 : w.cell? ⟨b, o + 3, none⟩ = some (.int .i64 F.res)
  c4 : w.cell? ⟨b, o + 4, none⟩ = some (.slice F.blk.a F.blk.n F.blk.c)

theorem EAt.on {w w' : World} {b o : Nat} {v : EV} (hb : Below w.heap.size w w') (h : EAt w b o v) : EAt w' b o v := ⟨cell_on hb h.c0, cell_on hb h.c1, cell_on hb h.c2⟩
theorem GAt.on {w w' : World} {b o : Nat} {v : GV} (hb : Below w.heap.size w w') (h : GAt w b o v) : GAt w' b o v := ⟨cell_on hb h.c0, cell_on hb h.c1⟩
theorem FAt.on {w w' : World} {b o : Nat} {v : FV} (hb : Below w.heap.size w w') (h : FAt w b o v) : FAt w' b o v := ⟨cell_on hb h.c0, cell_on hb h.c1, cell_on hb h.c2, cell_on hb h.c3, cell_on hb h.c4⟩

/-- A row of things of z cells each. -/
def Row {α : Type} (z : Nat) (p : World → Nat → Nat → α → Prop) (w : World) (s : Sl) (f : Nat → α) : Prop :=
  s.n ≤ s.c ∧ s.n ≤ 140737488355328 ∧ (s.a = none → s.c = 0) ∧ (0 < s.n → ∃ b off, s.a = some ⟨b, off, none⟩ ∧ ∀ i, i < s.n → p w b (off + i * z) (f i))

theorem Row.on {α : Type} {z : Nat} {p : World → Nat → Nat → α → Prop} {w w' : World} {s : Sl} {f : Nat → α} (hp : ∀ b o v, p w b o v → p w' b o v) (h : Row z p w s f) : Row z p w' s f :=
  ⟨h.1, h.2.1, h.2.2.1, fun h0 => by
    obtain ⟨b, off, ha, hc⟩ := h.2.2.2 h0
    exact ⟨b, off, ha, fun i hi => hp _ _ _ (hc i hi)⟩⟩

theorem Row.at {α : Type} {z : Nat} {p : World → Nat → Nat → α → Prop} {w : World} {s : Sl} {f : Nat → α} (h : Row z p w s f) {T e : Nat} (hT : Try.prog.underlying T = some (.slice e)) (hz : (Try.prog.info? e).map (fun i => i.size) = some z) {k : Nat} (hk : k < s.n) :
    ∃ b o, (∀ wx, (Instr.indexAt T (.slice s.a s.n s.c) (.int .i64 k)).run Try.prog wx = .ok (.pointer (some ⟨b, o, none⟩)) wx) ∧ p w b o (f k) := by
  obtain ⟨b, off, ha, hc⟩ := h.2.2.2 (by omega)
  exact ⟨b, off + k * z, index_row ha hT hz hk, hc k hk⟩

theorem underlying22 : Try.prog.underlying 22 = some (.slice 66) := by kernel_rfl
theorem underlying23 : Try.prog.underlying 23 = some (.slice 48) := by kernel_rfl
theorem underlying24 : Try.prog.underlying 24 = some (.slice 68) := by kernel_rfl
theorem underlying25 : Try.prog.underlying 25 = some (.slice 33) := by kernel_rfl
theorem underlying46 : Try.prog.underlying 46 = some (.slice 2) := by kernel_rfl
theorem size66 : (Try.prog.info? 66).map (fun i => i.size) = some 3 := by kernel_rfl
theorem size48 : (Try.prog.info? 48).map (fun i => i.size) = some 2 := by kernel_rfl
theorem size68 : (Try.prog.info? 68).map (fun i => i.size) = some 2 := by kernel_rfl
theorem size33 : (Try.prog.info? 33).map (fun i => i.size) = some 5 := by kernel_rfl
theorem size2 : (Try.prog.info? 2).map (fun i => i.size) = some 1 := by kernel_rfl

structure InM (w : World) (M : MV) : Prop where
  ext : Row 3 EAt w M.ext M.E
  extP : ∀ i, i < M.ext.n → Ints w (M.E i).par (M.EP i)
  glo : Row 2 GAt w M.glo M.G
  gloC : ∀ i, i < M.glo.n → Ints w (M.G i).cel (M.GC i)
  tab : Row 2 GAt w M.tab M.T
  tabF : ∀ i, i < M.tab.n → Ints w (M.T i).cel (M.TF i)
  fns : Row 5 FAt w M.fns M.F
  fnI : ∀ k, k < M.fns.n → In w (M.F k)

theorem InM.on {w w' : World} {M : MV} (hb : Below w.heap.size w w') (h : InM w M) : InM w' M :=
  ⟨h.ext.on (fun _ _ _ => EAt.on hb), fun i hi => (h.extP i hi).on hb, h.glo.on (fun _ _ _ => GAt.on hb), fun i hi => (h.gloC i hi).on hb, h.tab.on (fun _ _ _ => GAt.on hb), fun i hi => (h.tabF i hi).on hb, h.fns.on (fun _ _ _ => FAt.on hb), fun k hk => (h.fnI k hk).on hb⟩

/-- All numbers of a module fit. -/
structure FitsM (M : MV) : Prop where
  ext : ∀ i, i < M.ext.n → W64 (M.E i).res ∧ ∀ k, k < (M.E i).par.n → W64 (M.EP i k)
  glo : ∀ i, i < M.glo.n → ∀ k, k < (M.G i).cel.n → W64 (M.GC i k)
  tab : ∀ i, i < M.tab.n → ∀ k, k < (M.T i).cel.n → W64 (M.TF i k)
  fns : ∀ k, k < M.fns.n → Fits (M.F k)

variable {H : Type} {enc : TypeId × Value → H} {w : World}

instance : Inhabited EV := ⟨⟨ByteArray.empty, ⟨none, 0, 0⟩, 0⟩⟩
instance : Inhabited GV := ⟨⟨ByteArray.empty, ⟨none, 0, 0⟩⟩⟩
instance : Inhabited FV := ⟨fzero⟩

end Go.Proofs.Ytnodofbpogcheaa.Mod

/-
  ir.renumber and ir.Neat: what they leave.
-/
namespace Go.Proofs.Ytnodofbpogcheaa.Own
open Go.RowKit View Rd Copy Srt Num

set_option linter.unusedVariables false

def updTo (I : Nat → Nat → IV) (j k : Nat) (v : Int) : Nat → Nat → IV := fun j' k' => if j' = j ∧ k' = k then { I j' k' with to := v } else I j' k'

theorem updTo_args (I : Nat → Nat → IV) (j k : Nat) (v : Int) (j' k' : Nat) : (updTo I j k v j' k').args = (I j' k').args := by unfold updTo; split <;> rfl
theorem updTo_into (I : Nat → Nat → IV) (j k : Nat) (v : Int) (j' k' : Nat) : (updTo I j k v j' k').into = (I j' k').into := by unfold updTo; split <;> rfl
theorem updTo_same (I : Nat → Nat → IV) (j k : Nat) (v : Int) : updTo I j k v j k = { I j k with to := v } := by simp [updTo]
theorem updTo_other (I : Nat → Nat → IV) {j k j' k' : Nat} (v : Int) (h : ¬ (j' = j ∧ k' = k)) : updTo I j k v j' k' = I j' k' := by simp only [updTo, if_neg h]

theorem InsAt.set2 {w : World} {b o : Nat} {v : IV} (h : InsAt w b o v) (n : Int) : InsAt (w.setCell ⟨b, o + 2, none⟩ (.int .i64 n)) b o { v with to := n } :=
  ⟨cell_other (ne_off (by omega)) h.c0, cell_other (ne_off (by omega)) h.c1, cell_same h.c2, cell_other (ne_off (by omega)) h.c3, cell_other (ne_off (by omega)) h.c4, cell_other (ne_off (by omega)) h.c5, cell_other (ne_off (by omega)) h.c6⟩

theorem InsAt.off {w : World} {b o : Nat} {v : IV} (h : InsAt w b o v) {o' : Nat} (ho : o' < o ∨ o + 6 < o') (u : Value) : InsAt (w.setCell ⟨b, o', none⟩ u) b o v :=
  ⟨cell_other (ne_off (by omega)) h.c0, cell_other (ne_off (by omega)) h.c1, cell_other (ne_off (by omega)) h.c2, cell_other (ne_off (by omega)) h.c3, cell_other (ne_off (by omega)) h.c4, cell_other (ne_off (by omega)) h.c5, cell_other (ne_off (by omega)) h.c6⟩

/-- An instruction's new number. -/
def newTo (F : FV) (j k : Nat) : Int := if (F.I j k).ty = 0 then 0 else ((lastOf F j + giv (F.I j) (k + 1) : Nat) : Int)

/-- What a number becomes. -/
def nm (F : FV) (v : Int) : Int := (allMap F F.blk.n v).getD 0

/-- Renumbered up to block b's instruction t, the others as they were. -/
def Ren (F : FV) (b t : Nat) (I : Nat → Nat → IV) (A : Nat → Nat → Nat → Int) : Prop :=
  ∀ j, j < F.blk.n → ∀ k, k < (F.B j).n → if j < b ∨ j = b ∧ k < t then I j k = { F.I j k with to := newTo F j k } ∧ A j k = fun i => nm F (F.A j k i) else I j k = F.I j k ∧ A j k = F.A j k

theorem Ren.start (F : FV) : Ren F 0 0 F.I F.A := fun j hj k hk => by simp

theorem Ren.put {F : FV} {b t : Nat} {I : Nat → Nat → IV} {A : Nat → Nat → Nat → Int} (h : Ren F b t I A) (hb : b < F.blk.n) (ht : t < (F.B b).n) : Ren F b (t + 1) (updTo I b t (newTo F b t)) (upd A b t (fun i => nm F (F.A b t i))) := fun j hj k hk => by
  have := h j hj k hk
  by_cases e : j = b ∧ k = t
  · obtain ⟨rfl, rfl⟩ := e
    rw [if_neg (by omega)] at this
    rw [if_pos (by omega), upd_same, updTo_same, this.1]; exact ⟨rfl, rfl⟩
  · rw [upd_other _ _ e, updTo_other _ _ e]
    by_cases e2 : j < b ∨ j = b ∧ k < t
    · rw [if_pos e2] at this; rw [if_pos (by omega)]; exact this
    · rw [if_neg e2] at this; rw [if_neg (by omega)]; exact this

theorem Ren.next {F : FV} {b : Nat} {I : Nat → Nat → IV} {A : Nat → Nat → Nat → Int} (h : Ren F b (F.B b).n I A) : Ren F (b + 1) 0 I A := fun j hj k hk => by
  have := h j hj k hk
  by_cases e2 : j < b ∨ j = b ∧ k < (F.B b).n
  · rw [if_pos e2] at this; rw [if_pos (by omega)]; exact this
  · rw [if_neg e2] at this
    rw [if_neg (fun h => ?_)]
    · exact this
    · rcases h with h | h
      · rcases Nat.lt_or_eq_of_le (Nat.le_of_lt_succ h) with h' | rfl
        · exact e2 (.inl h')
        · exact e2 (.inr ⟨rfl, hk⟩)
      · omega

theorem InsAt.blk {w : World} {b o : Nat} {v : IV} (h : InsAt w b o v) {a : Addr} (ha : b ≠ a.block) (u : Value) : InsAt (w.setCell a u) b o v :=
  h.kept ((Kept.refl (fun k => k ≠ a.block) w).setCell (fun h => h rfl) u) ha

/-- What renumber leaves. -/
def Renumbered (base : Nat) (F : FV) (at_ : Id → Nat) (w : World) (e : Ending) (w' : World) : Prop :=
  e = .returned (.tuple #[]) ∧ ∃ I A, Own base w' { F with I := I, A := A } at_ ∧ Ren F F.blk.n 0 I A ∧ Turn (rowsOf F at_) w w'

end Go.Proofs.Ytnodofbpogcheaa.Own

/-
  The types of a function's values: plnref3.Types, plnref3.Values.
-/
namespace Go.Proofs.Ytnodofbpogcheaa.Ty
open Go.RowKit View Rd Copy

set_option linter.unusedVariables false

def tyRow (f : Nat → IV) : Nat → List Int
  | 0 => []
  | k + 1 => tyRow f k ++ if (f k).ty ≠ 0 then [(f k).ty] else []

def tyAll (F : FV) : Nat → List Int
  | 0 => []
  | j + 1 => tyAll F j ++ tyRow (F.I j) (F.B j).n

def typesL (F : FV) : List Int := 0 :: (row F.P F.par.n ++ tyAll F F.blk.n)

/-- What has been told ahead of block j's instruction t. -/
def pre (F : FV) (j t : Nat) : List Int := 0 :: (row F.P F.par.n ++ (tyAll F j ++ tyRow (F.I j) t))

theorem pre_next (F : FV) (j : Nat) : pre F j (F.B j).n = pre F (j + 1) 0 := by simp [pre, tyAll, tyRow]
theorem pre_all (F : FV) : pre F F.blk.n 0 = typesL F := by simp [pre, typesL, tyRow]
theorem pre_no (F : FV) (j t : Nat) (h : (F.I j t).ty = 0) : pre F j (t + 1) = pre F j t := by simp [pre, tyRow, h]
theorem pre_yes (F : FV) (j t : Nat) (h : (F.I j t).ty ≠ 0) : pre F j (t + 1) = pre F j t ++ [(F.I j t).ty] := by simp [pre, tyRow, h]

theorem tyRow_length (f : Nat → IV) : ∀ k, (tyRow f k).length = giv f k
  | 0 => rfl
  | k + 1 => by
    rw [tyRow, List.length_append, tyRow_length f k, giv]
    by_cases h : (f k).ty = 0 <;> simp [h]

theorem tyAll_length (F : FV) : ∀ j, (tyAll F j).length = cnt (fun j => giv (F.I j) (F.B j).n) j
  | 0 => rfl
  | j + 1 => by rw [tyAll, List.length_append, tyAll_length F j, tyRow_length, cnt]

theorem pre_length (F : FV) (j t : Nat) : (pre F j t).length = F.par.n + cnt (fun j => giv (F.I j) (F.B j).n) j + giv (F.I j) t + 1 := by
  rw [pre, List.length_cons, List.length_append, List.length_append, row_length, tyAll_length, tyRow_length]; omega

theorem typesL_length (F : FV) : (typesL F).length = F.par.n + cnt (fun j => giv (F.I j) (F.B j).n) F.blk.n + 1 := by
  rw [typesL, List.length_cons, List.length_append, row_length, tyAll_length]

/-- One number appended to a row of the call's own. -/
theorem append_one {ops : Array Oper} {rest : List Oper} {o : Oper} {a : Act} {Q : Exit → Act → World → Prop} {w : World} (hgd : o.guard = none) (s x : Operand)
    (ho : o.op = .call { callee := .builtin .append, args := #[s, x], argTypes := #[28, 28] })
    (base : Nat) (v : Value) (xs : List Int) (hs : a.eval s = v) (y : Int) (hown : w.ownsRow base 3 1 v xs.length (xs.map (Value.int .i64)))
    (hx : a.eval x = .slice (some ⟨w.heap.size, 0, none⟩) 1 1)
    (hsm : xs.length ≤ 1000000) (hbase : base ≤ w.heap.size)
    (h : ∀ v' w', w'.ownsRow base 3 1 v' (xs ++ [y]).length ((xs ++ [y]).map (Value.int .i64)) → (w.alloc (.cells #[.int .i64 y] 3)).grownBy w' v.ownBlock → wpList Try.prog ops Q rest (a.put o.dst v') w') : wpList Try.prog ops Q (o :: rest) a (w.alloc (.cells #[.int .i64 y] 3)) := by
  obtain ⟨i0, hi, hz0, hz1, hz2⟩ := info_parts info3
  refine wpList_append_own _ hgd s x 28 ho base 3 i0 (.int .i64 0) 1 8 underlying28 hi hz0 hz1 hz2 rfl (by decide) v _ _ hs (hown.alloc _) ⟨w.heap.size, 0, none⟩ 1 1 [.int .i64 y] hx rfl (cell_one_new _ _ _) (by intro u hu; simp at hu; subst hu; rfl) (by simp only [maxLen]; omega) (by omega) (by simp; omega) ?_
  intro v' w' h1 h2 _
  exact h v' w' (by simpa using h1) h2

/-- A row of numbers is handed back. -/
def Lists (L : List Int) (w : World) (e : Ending) (w' : World) : Prop :=
  ∃ s : Sl, e = .returned (.slice s.a s.n s.c) ∧ s.n = L.length ∧ Ints w' s (fun i => L.getD i 0) ∧ Mine w.heap.size w'.heap.size w' s ∧ Below w.heap.size w w'

theorem FuncAt.grown {w w' : World} {b : Nat} {F : FV} {r : Option Nat} (h : FuncAt w b F) (hg : w.grownBy w' r) (hr : ∀ k, r = some k → b < k) : FuncAt w' b F :=
  h.kept (p := fun k => k < w.heap.size ∧ some k ≠ r) ⟨hg.size, fun k hk => hg.block k hk.1 hk.2⟩ ⟨World.block_lt_of_cell? _ _ h.c0, fun e => by have := hr b e.symm; omega⟩

end Go.Proofs.Ytnodofbpogcheaa.Ty

/-
  Where each value stands, by the document: plnref3.Where.
-/
namespace Go.Proofs.Ytnodofbpogcheaa.Chk
open Go.RowKit View Rd Num Opn Copy Ty Srt Go.Proofs.Ytnodofbpogcheaa.Mod

set_option linter.unusedVariables false

/-- The number of the value that block b's instruction k gives. -/
def idx (F : FV) (b k : Nat) : Nat := lastOf F b + giv (F.I b) (k + 1)

def allV (F : FV) : Nat := F.par.n + cnt (fun j => giv (F.I j) (F.B j).n) F.blk.n

theorem cnt_mono (n : Nat → Nat) {a b : Nat} (h : a ≤ b) : cnt n a ≤ cnt n b := by
  induction b with
  | zero => obtain rfl : a = 0 := by omega
            exact Nat.le_refl _
  | succ b ih =>
    by_cases e : a = b + 1
    · subst e; exact Nat.le_refl _
    · have := ih (by omega)
      rw [cnt]; omega

theorem lastOf_next (F : FV) (b : Nat) : lastOf F (b + 1) = lastOf F b + giv (F.I b) (F.B b).n := by simp only [lastOf, cnt]; omega

theorem lastOf_mono (F : FV) {a b : Nat} (h : a ≤ b) : lastOf F a ≤ lastOf F b := by
  have := cnt_mono (fun j => giv (F.I j) (F.B j).n) h
  simp only [lastOf]; omega

theorem lastOf_par (F : FV) (b : Nat) : F.par.n ≤ lastOf F b := by simp only [lastOf]; omega

theorem lastOf_all (F : FV) : lastOf F F.blk.n = allV F := rfl

theorem idx_par (F : FV) {b k : Nat} (h : (F.I b k).ty ≠ 0) : F.par.n < idx F b k := by
  have := lastOf_par F b
  unfold idx
  rw [giv, if_pos (by simpa using h)]; omega

theorem idx_eq (F : FV) {b k : Nat} (h : (F.I b k).ty ≠ 0) : idx F b k = lastOf F b + giv (F.I b) k + 1 := by
  unfold idx
  rw [giv, if_pos (by simpa using h)]; omega

/-- Ahead in order. -/
def Bef (F : FV) (b k b' k' : Nat) : Prop := b' < b ∨ (b' = b ∧ k' < k)

theorem allV_le {F : FV} (hl : Light F) : allV F ≤ 10000 := by
  have := giv_all hl
  have := hl.par; have := hl.blk; unfold allV; omega

/-- A row of pairs. -/
abbrev pairs (bl pl : Nat → Int) : Nat → Value := fun i => .int .i64 (if i % 2 = 0 then bl (i / 2) else pl (i / 2))

structure Wh (F : FV) (w : World) (O : Nat) (bl pl : Nat → Int) (b k : Nat) : Prop where
  row : w.rowIs O 97 ((allV F + 1) * 2) (pairs bl pl)
  par : ∀ n, n ≤ F.par.n → bl n = -1
  val : ∀ b' k', b' < F.blk.n → k' < (F.B b').n → (F.I b' k').ty ≠ 0 → Bef F b k b' k' → bl (idx F b' k') = b' ∧ pl (idx F b' k') = k'

def WhereIs (F : FV) (w : World) (e : Ending) (w' : World) : Prop :=
  ∃ (O : Nat) (bl pl : Nat → Int), e = .returned (.slice (some ⟨O, 0, none⟩) (allV F + 1) (allV F + 1)) ∧ Wh F w' O bl pl F.blk.n 0 ∧ w.heap.size ≤ O ∧ Below w.heap.size w w'

end Go.Proofs.Ytnodofbpogcheaa.Chk
