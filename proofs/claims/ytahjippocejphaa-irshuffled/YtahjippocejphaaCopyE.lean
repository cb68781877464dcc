/-
  plnref3.CopyFunc: what holds between its steps.
-/
import Derived.Test.YtahjippocejphaaCopyG
import Derived.Test.YtahjippocejphaaNeat
namespace Go.Proofs.Ytahjippocejphaa.Own
open Go.RowKit View Rd Copy Srt

set_option linter.unusedVariables false

abbrev zF : FV := ⟨⟨#[]⟩, false, ⟨none, 0, 0⟩, 0, ⟨none, 0, 0⟩, fun _ => 0, fun _ => ⟨none, 0, 0⟩, fun _ _ => IV.zero, fun _ _ _ => 0, fun _ _ _ => 0⟩

/-- The blocks that are written beside the rows. -/
def Xs (w : World) (Gb g : Nat) : Prop := g = Gb ∨ g = w.heap.size ∨ g = w.heap.size + 1

structure Env (F : FV) (w : World) (Gb : Nat) (sp bs : Sl) (wr : World) : Prop where
  fg : FuncAt wr Gb { F with par := sp, blk := bs }
  ff : FuncAt wr w.heap.size F
  fz : FuncAt wr (w.heap.size + 1) zF
  zg : ∀ i, wr.frozen? ⟨Gb, i, none⟩ = false
  zz : ∀ i, wr.frozen? ⟨w.heap.size + 1, i, none⟩ = false
  low : Below w.heap.size w wr
  lt : Gb < wr.heap.size
  ge : w.heap.size + 2 ≤ Gb

theorem Env.to {F : FV} {w wr w' : World} {Gb : Nat} {sp bs : Sl} (h : Env F w Gb sp bs wr) (hz : wr.heap.size ≤ w'.heap.size) (hb : ∀ g, Xs w Gb g → w'.heap[g]? = wr.heap[g]?) (hl : Below w.heap.size w w') : Env F w Gb sp bs w' := by
  have k : Kept (Xs w Gb) wr w' := ⟨hz, hb⟩
  exact ⟨h.fg.kept k (.inl rfl), h.ff.kept k (.inr (.inl rfl)), h.fz.kept k (.inr (.inr rfl)), fun i => by rw [World.frozen?_of_block (w := wr) (hb _ (.inl rfl))]; exact h.zg i, fun i => by rw [World.frozen?_of_block (w := wr) (hb _ (.inr (.inr rfl)))]; exact h.zz i, hl, Nat.lt_of_lt_of_le h.lt hz, h.ge⟩

theorem Env.xlt {F : FV} {w wr : World} {Gb : Nat} {sp bs : Sl} (h : Env F w Gb sp bs wr) : ∀ g, Xs w Gb g → g < wr.heap.size := fun g hg => by
  have := h.lt; have := h.ge
  rcases hg with e | e | e <;> omega

theorem Env.on {F : FV} {w wr w' : World} {Gb : Nat} {sp bs : Sl} (h : Env F w Gb sp bs wr) (hb : Below wr.heap.size wr w') : Env F w Gb sp bs w' :=
  h.to hb.size (fun g hg => hb.block g (h.xlt g hg)) (more h.low hb)

/-- Between two blocks. -/
def OutS (F : FV) (w : World) (Gb : Nat) (sp : Sl) (j : Nat) (wr : World) : Prop :=
  ∃ (bs : Sl) (S : Id → Sl), Part F (w.heap.size + 2) (Xs w Gb) wr j 0 (.slice none 0 0) (slv bs) sp S ∧ Env F w Gb sp bs wr

/-- Between two instructions. -/
def InS (F : FV) (w : World) (Gb Bb : Nat) (sp bs : Sl) (j k : Nat) (wx : World) : Prop :=
  ∃ (vs : Sl) (S : Id → Sl), Part F (w.heap.size + 2) (fun g => Xs w Gb g ∨ g = Bb) wx j k (slv vs) (slv bs) sp S ∧ Env F w Gb sp bs wx ∧ wx.cell? ⟨Bb, 0, none⟩ = some (slv vs) ∧ wx.frozen? ⟨Bb, 0, none⟩ = false ∧ Gb < Bb ∧ Bb < wx.heap.size

theorem Part.start {F : FV} {w wr : World} {Gb : Nat} {sp : Sl} (h : Env F w Gb sp ⟨none, 0, 0⟩ wr) (hp : Ints wr sp F.P) (hn : sp.n = F.par.n) (hm : Mine (w.heap.size + 2) wr.heap.size wr sp) (hg : 0 < sp.n → blkOf sp ≠ Gb) :
    Part F (w.heap.size + 2) (Xs w Gb) wr 0 0 (.slice none 0 0) (.slice none 0 0) sp (fun _ => ⟨none, 0, 0⟩) := by
  have no : ∀ x, ¬ Dn F 0 0 x := fun x hx => by
    cases x with
    | row a => exact absurd hx (Nat.not_lt_zero _)
    | arg a t => rcases hx with ⟨h, _⟩ | ⟨_, h⟩ <;> exact absurd h (Nat.not_lt_zero _)
    | int a t => rcases hx with ⟨h, _⟩ | ⟨_, h⟩ <;> exact absurd h (Nat.not_lt_zero _)
  refine ⟨fun x hx => absurd hx (no x), fun x hx => absurd hx (no x), fun x hx => absurd hx (no x), fun x y hx => absurd hx (no x), World.ownsRow_nil _ _ _ _, World.ownsRow_nil _ _ _ _, fun x hx => absurd hx (no x), hp, hn, hm, fun _ => ⟨by simp [Value.ownBlock], by simp [Value.ownBlock]⟩, fun x hx => absurd hx (no x), fun g hg => by simp [Value.ownBlock] at hg, fun g hg => by simp [Value.ownBlock] at hg, fun h0 e => ?_, h.xlt⟩
  have := (mine_blk hm h0).2.1
  rcases e with e | e | e
  · exact hg h0 e
  · omega
  · omega

theorem owns_slv {w : World} {base e z n : Nat} {v : Value} {xs : List Value} (h : w.ownsRow base e z v n xs) : ∃ s : Sl, v = slv s := by
  rcases h.2 with ⟨rfl, _⟩ | ⟨g, cap, cur, rfl, _⟩
  · exact ⟨⟨none, 0, 0⟩, rfl⟩
  · exact ⟨⟨some ⟨g, 0, none⟩, n, cap⟩, rfl⟩

theorem cells_new (w : World) (cs : Array Value) (t : TypeId) : ∀ j u, cs.toList[j]? = some u → (w.alloc (.cells cs t)).cell? ((⟨w.heap.size, 0, none⟩ : Addr).add j) = some u := by
  intro j u h
  have e : (⟨w.heap.size, 0, none⟩ : Addr).add j = ⟨w.heap.size, j, none⟩ := by simp [Addr.add_lit]
  rw [e]
  simpa using h

theorem app_ins {w2 : World} {base k : Nat} {v : Value} {f : Nat → IV} (own : w2.ownsRow base 42 7 v k (flat f k)) (hk : k ≤ 1000) (hbase : base ≤ w2.heap.size) (u : IV) (ty : TypeId) :
    ∃ v' w4, (Builtin.append_ #[37, 37] ty #[v, .slice (some ⟨w2.heap.size, 0, none⟩) 1 1]).run Try.prog (w2.alloc (.cells u.cells 42)) = .ok v' w4 ∧ w4.ownsRow base 42 7 v' (k + 1) (flat f k ++ u.cells.toList) ∧
      (w2.alloc (.cells u.cells 42)).grownBy w4 v.ownBlock ∧ (v'.ownBlock = v.ownBlock ∨ v'.ownBlock = some (w2.heap.size + 1)) := by
  obtain ⟨i0, hi, hz0, hz1, hz2⟩ := info_parts info42
  obtain ⟨v', w4, h1, h2, h3, _, h5⟩ := run_append_own_at (P := Try.prog) (w2.alloc (.cells u.cells 42)) base 37 ty 42 i0 IV.zero.val 7 88 underlying37 hi hz0 hz1 hz2 rfl (by decide) v k _ (own.alloc _) ⟨w2.heap.size, 0, none⟩ 1 1 u.cells.toList (by simp) (cells_new _ _ _) (by intro x hx; simp at hx; rcases hx with rfl | rfl | rfl | rfl | rfl | rfl | rfl <;> rfl) (by simp only [maxLen]; omega) (by omega) (by simp; omega)
  exact ⟨v', w4, h1, h2, h3, by simpa using h5⟩

theorem app_blk {w2 : World} {base k : Nat} {v : Value} {xs : List Value} (own : w2.ownsRow base 39 1 v k xs) (hk : k ≤ 1000) (hbase : base ≤ w2.heap.size) (u : Sl) (ty : TypeId) :
    ∃ v' w4, (Builtin.append_ #[31, 31] ty #[v, .slice (some ⟨w2.heap.size, 0, none⟩) 1 1]).run Try.prog (w2.alloc (.cells #[slv u] 39)) = .ok v' w4 ∧ w4.ownsRow base 39 1 v' (k + 1) (xs ++ [slv u]) ∧
      (w2.alloc (.cells #[slv u] 39)).grownBy w4 v.ownBlock ∧ (v'.ownBlock = v.ownBlock ∨ v'.ownBlock = some (w2.heap.size + 1)) := by
  obtain ⟨i0, hi, hz0, hz1, hz2⟩ := info_parts info39
  obtain ⟨v', w4, h1, h2, h3, _, h5⟩ := run_append_own_at (P := Try.prog) (w2.alloc (.cells #[slv u] 39)) base 31 ty 39 i0 (.agg #[.slice none 0 0]) 1 24 underlying31 hi hz0 hz1 hz2 rfl (by decide) v k _ (own.alloc _) ⟨w2.heap.size, 0, none⟩ 1 1 [slv u] rfl (cells_new _ #[slv u] _) (by intro x hx; simp at hx; subst hx; rfl) (by simp only [maxLen]; omega) (by omega) (by simp; omega)
  exact ⟨v', w4, h1, h2, h3, by simpa using h5⟩

/-- One instruction more. -/
theorem in_step {F : FV} {w wx w2 w4 : World} {Gb Bb j k : Nat} {sp bs vs ta ti : Sl} {v' : Value} {S : Id → Sl} (p : Part F (w.heap.size + 2) (fun g => Xs w Gb g ∨ g = Bb) wx j k (slv vs) (slv bs) sp S) (e : Env F w Gb sp bs wx)
    (hc : wx.cell? ⟨Bb, 0, none⟩ = some (slv vs)) (hf : wx.frozen? ⟨Bb, 0, none⟩ = false) (hgb : Gb < Bb) (hbz : Bb < wx.heap.size)
    (tw : Copy.Twin wx.drew.heap.size w2.heap.size w2 ta ti (F.I j k) (F.A j k) (F.J j k)) (hb2 : Below wx.drew.heap.size wx.drew w2)
    (own4 : w4.ownsRow (w.heap.size + 2) 42 7 v' (k + 1) (flat (cpI F S j) k ++ ({ F.I j k with args := ta, into := ti } : IV).cells.toList))
    (gr : (w2.alloc (.cells ({ F.I j k with args := ta, into := ti } : IV).cells 42)).grownBy w4 (slv vs).ownBlock)
    (hat : v'.ownBlock = (slv vs).ownBlock ∨ v'.ownBlock = some (w2.heap.size + 1)) : InS F w Gb Bb sp bs j (k + 1) (w4.setCell ⟨Bb, 0, none⟩ v') := by
  obtain ⟨vs', rfl⟩ := owns_slv own4
  have ge := e.ge
  have hlt := e.lt
  have hzw : wx.drew.heap.size = wx.heap.size := rfl
  have p0 := p.on (Below.drew (same wx))
  have p4 := p0.step (v' := slv vs') hb2 tw (by rw [hzw]; omega) own4 gr hat
  have z2 := hb2.size
  have z4 := gr.size
  simp only [World.size_alloc] at z4
  have hbk : ∀ g, (Xs w Gb g ∨ g = Bb) → g < wx.heap.size → w4.heap[g]? = wx.heap[g]? := fun g hg hgz => by
    rw [gr.block g (by simp; omega) (fun h => p.avv g h.symm hg), Below.heap_alloc _ _ _ (by omega), hb2.block g (by omega)]; rfl
  have lo4 : Below w.heap.size w w4 := by
    have l2 : Below w.heap.size w w2 := (e.low.trans (Below.drew (Below.refl _ wx))).trans (hb2.mono (by have := e.low.size; omega))
    refine (l2.alloc l2.size _).grown gr (by simp; have := l2.size; omega) (fun g hg => ?_)
    have := (p.cur.lt g hg).1
    omega
  have e4 : Env F w Gb sp bs w4 := e.to (by omega) (fun g hg => hbk g (.inl hg) (e.xlt g hg)) lo4
  have nb : ¬ Xs w Gb Bb := fun h => by rcases h with h | h | h <;> omega
  refine ⟨vs', _, p4.write (a := ⟨Bb, 0, none⟩) (.inr rfl) _, e4.to (by simp) (fun g hg => Below.heap_setCell _ _ _ _ (fun h => nb (by have h' : g = Bb := h; rw [← h']; exact hg))) (lo4.setCell (by show _ ≤ Bb; omega) _), ?_, ?_, hgb, by simp; omega⟩
  · refine cell_same (u := slv vs) ?_
    rw [World.cell?_of_block (w := wx) (hbk Bb (.inr rfl) hbz)]; exact hc
  · rw [World.frozen?_setCell, World.frozen?_of_block (w := wx) (hbk Bb (.inr rfl) hbz)]; exact hf

/-- One block more. -/
theorem out_step {F : FV} {w wx w5 : World} {Gb Bb j : Nat} {sp bs vs : Sl} {v' : Value} {S : Id → Sl} (p : Part F (w.heap.size + 2) (fun g => Xs w Gb g ∨ g = Bb) wx j (F.B j).n (slv vs) (slv bs) sp S) (e : Env F w Gb sp bs wx) (hn : (F.B j).n ≤ 1000)
    (own5 : w5.ownsRow (w.heap.size + 2) 39 1 v' (j + 1) ((List.range j).map (fun a => slv (S (.row a))) ++ [slv vs]))
    (gr : (wx.alloc (.cells #[slv vs] 39)).grownBy w5 (slv bs).ownBlock) (hat : v'.ownBlock = (slv bs).ownBlock ∨ v'.ownBlock = some (wx.heap.size + 1)) : OutS F w Gb sp (j + 1) (w5.setCell ⟨Gb, 4, none⟩ v') := by
  obtain ⟨bs', rfl⟩ := owns_slv own5
  have ge := e.ge
  have hlt := e.lt
  have p5 := (p.next (bv' := slv bs') hn own5 gr hat).less (Y := Xs w Gb) (fun g h => .inl h)
  have z5 := gr.size
  simp only [World.size_alloc] at z5
  have hbk : ∀ g, Xs w Gb g → w5.heap[g]? = wx.heap[g]? := fun g hg => by
    rw [gr.block g (by simp; have := e.xlt g hg; omega) (fun h => p.avb g h.symm (.inl hg)), Below.heap_alloc _ _ _ (e.xlt g hg)]
  have lo5 : Below w.heap.size w w5 := by
    refine (e.low.alloc e.low.size _).grown gr (by simp; have := e.low.size; omega) (fun g hg => ?_)
    have := (p.blks.lt g hg).1
    omega
  have e5 : Env F w Gb sp bs w5 := e.to (by omega) hbk lo5
  obtain ⟨c0, c1, c2, c3, c4⟩ := e5.fg
  refine ⟨bs', _, p5.write (a := ⟨Gb, 4, none⟩) (.inl rfl) _, ⟨⟨?_, ?_, ?_, ?_, ?_⟩, ?_, ?_, fun i => by rw [World.frozen?_setCell]; exact e5.zg i, fun i => by rw [World.frozen?_setCell]; exact e5.zz i, lo5.setCell (by show _ ≤ Gb; omega) _, by simp; omega, ge⟩⟩
  · exact cell_other (ne_off (by omega)) c0
  · exact cell_other (ne_off (by omega)) c1
  · exact cell_other (ne_off (by omega)) c2
  · exact cell_other (ne_off (by omega)) c3
  · exact cell_same c4
  · exact e5.ff.kept ((Kept.refl (fun k => k ≠ Gb) w5).setCell (a := ⟨Gb, 4, none⟩) (fun h => h rfl) _) (by show _ ≠ _; omega)
  · exact e5.fz.kept ((Kept.refl (fun k => k ≠ Gb) w5).setCell (a := ⟨Gb, 4, none⟩) (fun h => h rfl) _) (by show _ ≠ _; omega)

theorem in_start {F : FV} {w wr : World} {Gb j : Nat} {sp bs : Sl} {S : Id → Sl} (p : Part F (w.heap.size + 2) (Xs w Gb) wr j 0 (.slice none 0 0) (slv bs) sp S) (e : Env F w Gb sp bs wr) :
    InS F w Gb wr.heap.size sp bs j 0 (wr.alloc (.cells #[.slice none 0 0] 39)) :=
  ⟨⟨none, 0, 0⟩, S, p.alloc _, e.on (new (same _) _), by simp, by simp, e.lt, by simp⟩

/-- What is handed back. -/
theorem out_end {F : FV} {w wr : World} {Gb : Nat} {sp bs : Sl} {S : Id → Sl} (p : Part F (w.heap.size + 2) (Xs w Gb) wr F.blk.n 0 (.slice none 0 0) (slv bs) sp S) (e : Env F w Gb sp bs wr) (hl : Light F) (x0 x1 x2 x3 x4 : Value) :
    CopyOf F w (.returned ({ F with par := sp, blk := bs } : FV).val) (((((wr.setCell ⟨w.heap.size + 1, 0, none⟩ x0).setCell ⟨w.heap.size + 1, 1, none⟩ x1).setCell ⟨w.heap.size + 1, 2, none⟩ x2).setCell ⟨w.heap.size + 1, 3, none⟩ x3).setCell ⟨w.heap.size + 1, 4, none⟩ x4) := by
  have q := ((((p.write (a := ⟨w.heap.size + 1, 0, none⟩) (.inr (.inr rfl)) x0).write (a := ⟨w.heap.size + 1, 1, none⟩) (.inr (.inr rfl)) x1).write (a := ⟨w.heap.size + 1, 2, none⟩) (.inr (.inr rfl)) x2).write (a := ⟨w.heap.size + 1, 3, none⟩) (.inr (.inr rfl)) x3).write (a := ⟨w.heap.size + 1, 4, none⟩) (.inr (.inr rfl)) x4
  obtain ⟨bs', eb, own, li, hn⟩ := q.whole hl
  obtain rfl : bs = bs' := by
    have h1 : bs.a = bs'.a ∧ bs.n = bs'.n ∧ bs.c = bs'.c := by simpa [slv] using eb
    cases bs; cases bs'; simp at h1; simp [h1]
  have dRow : ∀ a, a < F.blk.n → (S (.row a)).n = (F.B a).n := fun a ha => p.len (.row a) ha
  refine ⟨cpF F sp bs S, _, rfl, own.less (by omega), li, ⟨rfl, rfl, rfl, p.pn, rfl, hn, dRow, fun _ _ _ _ => rfl, fun _ _ _ _ => rfl, fun _ _ _ _ => rfl, fun _ _ _ _ => rfl, fun _ _ _ _ => rfl, fun j hj k hk => p.len (.arg j k) (.inl ⟨hj, hk⟩), fun j hj k hk => p.len (.int j k) (.inl ⟨hj, hk⟩), rfl, rfl⟩, ?_⟩
  repeat (refine Below.setCell ?_ (by simp) _)
  exact e.low

end Go.Proofs.Ytahjippocejphaa.Own
