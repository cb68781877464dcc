/-
  Copies lie apart: what plnlaw3.IrApart needs of them.
-/
import Derived.Test.YthaedlnefikigaaCopyR
import Derived.Test.YthaedlnefikigaaSpoil
import Derived.Test.YthaedlnefikigaaNeatLaw
import Derived.Test.YthaedlnefikigaaSameR
namespace Go.Proofs.Ythaedlnefikigaa.CpM
open Go.RowKit View Rd Copy Srt Go.Proofs.Ythaedlnefikigaa.Own Go.Proofs.Ythaedlnefikigaa.Mod

set_option linter.unusedVariables false

/-- Where a row lies. -/
def LiesIn (q : Nat → Prop) (s : Sl) : Prop := ∀ b o, s.a = some ⟨b, o, none⟩ → 0 < s.n → q b

structure LiesF (q : Nat → Prop) (F : FV) : Prop where
  par : LiesIn q F.par
  blk : LiesIn q F.blk
  ins : ∀ j, j < F.blk.n → LiesIn q (F.B j)
  args : ∀ j, j < F.blk.n → ∀ k, k < (F.B j).n → LiesIn q (F.I j k).args
  into : ∀ j, j < F.blk.n → ∀ k, k < (F.B j).n → LiesIn q (F.I j k).into

structure LiesM (q : Nat → Prop) (M : MV) : Prop where
  ext : LiesIn q M.ext
  extP : ∀ i, i < M.ext.n → LiesIn q (M.E i).par
  glo : LiesIn q M.glo
  gloC : ∀ i, i < M.glo.n → LiesIn q (M.G i).cel
  tab : LiesIn q M.tab
  tabF : ∀ i, i < M.tab.n → LiesIn q (M.T i).cel
  fns : LiesIn q M.fns
  fnI : ∀ k, k < M.fns.n → LiesF q (M.F k)

theorem EAt.kept {p : Nat → Prop} {w w' : World} {b o : Nat} {v : EV} (k : Kept p w w') (hp : p b) (h : EAt w b o v) : EAt w' b o v := ⟨cell_kept k hp h.c0, cell_kept k hp h.c1, cell_kept k hp h.c2⟩
theorem GAt.kept {p : Nat → Prop} {w w' : World} {b o : Nat} {v : GV} (k : Kept p w w') (hp : p b) (h : GAt w b o v) : GAt w' b o v := ⟨cell_kept k hp h.c0, cell_kept k hp h.c1⟩
theorem FAt.kept {p : Nat → Prop} {w w' : World} {b o : Nat} {v : FV} (k : Kept p w w') (hp : p b) (h : FAt w b o v) : FAt w' b o v := ⟨cell_kept k hp h.c0, cell_kept k hp h.c1, cell_kept k hp h.c2, cell_kept k hp h.c3, cell_kept k hp h.c4⟩

theorem row_kept {α : Type} {z : Nat} {p : World → Nat → Nat → α → Prop} {w w' : World} {s : Sl} {f : Nat → α} {q : Nat → Prop} (hp : ∀ b o v, q b → p w b o v → p w' b o v) (hl : LiesIn q s) (h : Row z p w s f) : Row z p w' s f :=
  ⟨h.1, h.2.1, h.2.2.1, fun h0 => by
    obtain ⟨b, off, ha, hc⟩ := h.2.2.2 h0
    exact ⟨b, off, ha, fun i hi => hp _ _ _ (hl b off ha h0) (hc i hi)⟩⟩

theorem in_lies {q : Nat → Prop} {w w' : World} {F : FV} (h : In w F) (k : Kept q w w') (l : LiesF q F) : In w' F :=
  ⟨h.par.kept k l.par, Sls_kept h.blk k l.blk, fun j hj => Inss_kept (h.ins j hj) k (l.ins j hj), fun j hj t ht => (h.args j hj t ht).kept k (l.args j hj t ht), fun j hj t ht => (h.into j hj t ht).kept k (l.into j hj t ht)⟩

theorem inM_lies {q : Nat → Prop} {w w' : World} {M : MV} (h : InM w M) (k : Kept q w w') (l : LiesM q M) : InM w' M :=
  ⟨row_kept (fun b o v hq => EAt.kept k hq) l.ext h.ext, fun i hi => (h.extP i hi).kept k (l.extP i hi), row_kept (fun b o v hq => GAt.kept k hq) l.glo h.glo, fun i hi => (h.gloC i hi).kept k (l.gloC i hi), row_kept (fun b o v hq => GAt.kept k hq) l.tab h.tab, fun i hi => (h.tabF i hi).kept k (l.tabF i hi), row_kept (fun b o v hq => FAt.kept k hq) l.fns h.fns, fun i hi => in_lies (h.fnI i hi) k (l.fnI i hi)⟩

theorem LiesIn.mono {q r : Nat → Prop} (h : ∀ b, q b → r b) {s : Sl} (l : LiesIn q s) : LiesIn r s := fun b o e h0 => h b (l b o e h0)
theorem LiesF.mono {q r : Nat → Prop} (h : ∀ b, q b → r b) {F : FV} (l : LiesF q F) : LiesF r F := ⟨l.par.mono h, l.blk.mono h, fun j hj => (l.ins j hj).mono h, fun j hj k hk => (l.args j hj k hk).mono h, fun j hj k hk => (l.into j hj k hk).mono h⟩
theorem LiesM.mono {q r : Nat → Prop} (h : ∀ b, q b → r b) {M : MV} (l : LiesM q M) : LiesM r M := ⟨l.ext.mono h, fun i hi => (l.extP i hi).mono h, l.glo.mono h, fun i hi => (l.gloC i hi).mono h, l.tab.mono h, fun i hi => (l.tabF i hi).mono h, l.fns.mono h, fun k hk => (l.fnI k hk).mono h⟩

theorem mine_lies {base : Nat} {w : World} {s : Sl} (h : Mine base w.heap.size w s) : LiesIn (fun b => base ≤ b ∧ b < w.heap.size) s := fun b o e h0 => h.ge b o e h0

theorem mine_wrt {base : Nat} {w : World} {s : Sl} {p : Nat → Prop} (h : Mine base w.heap.size w s) (hp : ∀ b, base ≤ b → b < w.heap.size → p b) : Wrt p w s := fun b o e h0 => by
  obtain ⟨g, h1, h2, h3, h4⟩ := h h0
  rw [h1] at e
  simp at e
  rw [← e.1]; exact ⟨hp g h2 h3, h4⟩

theorem own_lies {base : Nat} {w : World} {F : FV} {at_ : Own.Id → Nat} (h : Own base w F at_) : LiesF (fun b => base ≤ b ∧ b < w.heap.size) F :=
  ⟨mine_lies h.pm, mine_lies h.bm, fun j hj => mine_lies (h.mine (.row j) hj), fun j hj k hk => mine_lies (h.mine (.arg j k) ⟨hj, hk⟩), fun j hj k hk => mine_lies (h.mine (.int j k) ⟨hj, hk⟩)⟩

theorem own_wr {base : Nat} {w : World} {F : FV} {at_ : Own.Id → Nat} {p : Nat → Prop} (h : Own base w F at_) (hp : ∀ b, base ≤ b → b < w.heap.size → p b) : WrF p w F :=
  ⟨mine_wrt h.pm hp, fun j hj => mine_wrt (h.mine (.row j) hj) hp, fun j hj k hk => mine_wrt (h.mine (.arg j k) ⟨hj, hk⟩) hp, fun j hj k hk => mine_wrt (h.mine (.int j k) ⟨hj, hk⟩) hp⟩

/-- A copy in memory of its own, which may be written. -/
structure Apart (M : MV) (w w' : World) (N : MV) : Prop where
  inm : InM w' N
  eq : EqM N M
  small : SmallM N
  low : Below w.heap.size w w'
  lies : LiesM (fun b => w.heap.size ≤ b ∧ b < w'.heap.size) N
  wr : WrM (fun b => w.heap.size ≤ b ∧ b < w'.heap.size) w' N

theorem apart_of {M : MV} {w w' : World} {e : Ending} (hs : SmallM M) (h : CopyOfM M w e w') : ∃ N, e = .returned N.val ∧ Apart M w w' N := by
  obtain ⟨N0, rfl, ⟨G1, e1, b1, t1, E1⟩, ⟨G2, e2, b2, t2, E2⟩, ⟨G3, e3, b3, t3, E3⟩, ⟨G4, e4, b4, t4, E4⟩, hb⟩ := h
  have c : ∀ {T z n : Nat} {α : Type} {G : Nat} {cs : Nat → α → List Value} {El : World → Nat → α → Prop} {t : Nat → α}, Each G T z n n w' cs El t → w.heap.size + 2 ≤ G → LiesIn (fun b => w.heap.size ≤ b ∧ b < w'.heap.size) ⟨some ⟨G, 0, none⟩, n, n⟩ := fun {T z n α G cs El t} E hG b o e h0 => by
    simp at e
    have := (E.own.lt G rfl).2
    omega
  have m : ∀ {G : Nat} {s : Sl}, w.heap.size + 2 ≤ G → Mine (G + 1) w'.heap.size w' s → Mine w.heap.size w'.heap.size w' s := fun hG h => h.wide (by omega) (Nat.le_refl _)
  have cp := copied_of hs (show CopyOfM M w (.returned N0.val) w' from ⟨N0, rfl, ⟨G1, e1, b1, t1, E1⟩, ⟨G2, e2, b2, t2, E2⟩, ⟨G3, e3, b3, t3, E3⟩, ⟨G4, e4, b4, t4, E4⟩, hb⟩)
  -- the same module, by its parts
  have hin : ∃ N : MV, N = ⟨⟨some ⟨G1, 0, none⟩, M.ext.n, M.ext.n⟩, ⟨some ⟨G2, 0, none⟩, M.glo.n, M.glo.n⟩, ⟨some ⟨G3, 0, none⟩, M.tab.n, M.tab.n⟩, ⟨some ⟨G4, 0, none⟩, M.fns.n, M.fns.n⟩, fun i => ⟨(M.E i).name, t1 i, (M.E i).res⟩, M.EP, fun i => ⟨(M.G i).name, t2 i⟩, M.GC, fun i => ⟨(M.T i).name, t3 i⟩, M.TF, t4⟩ := ⟨_, rfl⟩
  obtain ⟨N, hN⟩ := hin
  have m1 := hs.ext
  have m2 := hs.glo
  have m3 := hs.tab
  have m4 := hs.fns
  have own4 : ∀ i, i < M.fns.n → ∃ at_, Own w.heap.size w' (t4 i) at_ ∧ Light (t4 i) ∧ Twins (M.F i) (t4 i) := fun i hi => by
    obtain ⟨a, h1, h2, h3⟩ := E4.el i hi
    exact ⟨a, Own.lower h1 (by omega), h2, h3⟩
  refine ⟨N, ?_, ?_, ?_, ?_, hb, ?_, ?_⟩
  · show Ending.returned (MV.val N0) = _
    subst hN
    unfold MV.val
    rw [e1, e2, e3, e4]
  · subst hN
    refine ⟨row_of (by omega) fun i hi => ⟨E1.cell (fun _ _ => rfl) hi (r := 0) (by decide) rfl, E1.cell (fun _ _ => rfl) hi (r := 1) (by decide) rfl, E1.cell (fun _ _ => rfl) hi (r := 2) (by decide) rfl⟩, fun i hi => (E1.el i hi).2.1, row_of (by omega) fun i hi => ⟨E2.cell (fun _ _ => rfl) hi (r := 0) (by decide) rfl, E2.cell (fun _ _ => rfl) hi (r := 1) (by decide) rfl⟩, fun i hi => (E2.el i hi).2.1, row_of (by omega) fun i hi => ⟨E3.cell (fun _ _ => rfl) hi (r := 0) (by decide) rfl, E3.cell (fun _ _ => rfl) hi (r := 1) (by decide) rfl⟩, fun i hi => (E3.el i hi).2.1, row_of (by omega) fun i hi => ⟨E4.cell (fun _ _ => rfl) hi (r := 0) (by decide) rfl, E4.cell (fun _ _ => rfl) hi (r := 1) (by decide) rfl, E4.cell (fun _ _ => rfl) hi (r := 2) (by decide) rfl, E4.cell (fun _ _ => rfl) hi (r := 3) (by decide) rfl, E4.cell (fun _ _ => rfl) hi (r := 4) (by decide) rfl⟩, fun i hi => ?_⟩
    obtain ⟨_, h1, _, _⟩ := own4 i hi; exact h1.inn
  · subst hN
    exact ⟨⟨rfl, fun i hi => ⟨rfl, rfl, (E1.el i hi).1, fun _ _ => rfl⟩⟩, ⟨rfl, fun i hi => ⟨rfl, (E2.el i hi).1, fun _ _ => rfl⟩⟩, ⟨rfl, fun i hi => ⟨rfl, (E3.el i hi).1, fun _ _ => rfl⟩⟩, ⟨rfl, fun i hi => by obtain ⟨_, _, _, h3⟩ := own4 i hi; exact eqF_twins h3⟩⟩
  · subst hN
    refine ⟨m1, m2, m3, m4, fun i hi => ⟨(hs.extI i hi).1, ?_⟩, fun i hi => ⟨(hs.gloI i hi).1, ?_⟩, fun i hi => ⟨(hs.tabI i hi).1, ?_⟩, fun i hi => ?_, ?_⟩
    · show (t1 i).n ≤ 10; rw [(E1.el i hi).1]; exact (hs.extI i hi).2
    · show (t2 i).n ≤ 20; rw [(E2.el i hi).1]; exact (hs.gloI i hi).2
    · show (t3 i).n ≤ 16; rw [(E3.el i hi).1]; exact (hs.tabI i hi).2
    · obtain ⟨_, _, h2, _⟩ := own4 i hi; exact h2
    · have e : cnt (fun k => fsize (t4 k)) M.fns.n = cnt (fun k => fsize (M.F k)) M.fns.n := cnt_same fun i hi => by
        obtain ⟨_, _, _, h3⟩ := own4 i hi
        unfold fsize
        rw [h3.blk]
        exact cnt_same fun j hj => h3.B j hj
      show cnt (fun k => fsize (t4 k)) M.fns.n ≤ 160
      rw [e]; exact hs.all
  · subst hN
    exact ⟨c E1 b1, fun i hi => mine_lies (m b1 (E1.el i hi).2.2), c E2 b2, fun i hi => mine_lies (m b2 (E2.el i hi).2.2), c E3 b3, fun i hi => mine_lies (m b3 (E3.el i hi).2.2), c E4 b4, fun i hi => by obtain ⟨_, h1, _, _⟩ := own4 i hi; exact own_lies h1⟩
  · subst hN
    exact ⟨fun i hi => mine_wrt (m b1 (E1.el i hi).2.2) (fun b h1 h2 => ⟨h1, h2⟩), fun i hi => mine_wrt (m b2 (E2.el i hi).2.2) (fun b h1 h2 => ⟨h1, h2⟩), fun i hi => mine_wrt (m b3 (E3.el i hi).2.2) (fun b h1 h2 => ⟨h1, h2⟩), fun i hi => by obtain ⟨_, h1, _, _⟩ := own4 i hi; exact own_wr h1 (fun b h1 h2 => ⟨h1, h2⟩)⟩

theorem copy_apart (M : MV) (w : World) (hM : InM w M) (hs : SmallM M) : Calls Try.prog 14 #[M.val] w fun e w' => ∃ N, e = .returned N.val ∧ Apart M w w' N :=
  (copy_ir M w hM hs).mono fun e w' h => apart_of hs h

/-- A turn that leaves what lies below lo. -/
theorem turn_below {p : Nat → Prop} {w w' : World} {lo : Nat} (h : Turn p w w') (hp : ∀ b, p b → lo ≤ b) (hl : lo ≤ w.heap.size) : Below lo w w' :=
  ⟨h.os, h.tape, h.output, h.size, fun k hk => h.block k (by omega) (fun hpk => by have := hp k hpk; omega)⟩

theorem eqs_symm {s t : Sl} {f g : Nat → Int} (h : Eqs s t f g) : Eqs t s g f := ⟨h.1.symm, fun i hi => (h.2 i (by rw [h.1]; exact hi)).symm⟩
theorem eqs_trans {s t u : Sl} {f g k : Nat → Int} (h : Eqs s t f g) (h' : Eqs t u g k) : Eqs s u f k := ⟨h.1.trans h'.1, fun i hi => (h.2 i hi).trans (h'.2 i (by rw [← h.1]; exact hi))⟩
theorem eqF_symm {F G : FV} (h : EqF F G) : EqF G F := by
  obtain ⟨h1, h2, h3, h4, h5, h6⟩ := h
  refine ⟨h1.symm, h2.symm, h3.symm, eqs_symm h4, h5.symm, fun j hj => ?_⟩
  obtain ⟨q1, q2⟩ := h6 j (by rw [h5]; exact hj)
  refine ⟨q1.symm, fun k hk => ?_⟩
  obtain ⟨a1, a2, a3, a4, a5, a6, a7⟩ := q2 k (by rw [q1]; exact hk)
  exact ⟨a1.symm, a2.symm, a3.symm, a4.symm, a5.symm, eqs_symm a6, eqs_symm a7⟩
theorem eqF_trans {F G H : FV} (h : EqF F G) (h' : EqF G H) : EqF F H := by
  obtain ⟨h1, h2, h3, h4, h5, h6⟩ := h
  obtain ⟨k1, k2, k3, k4, k5, k6⟩ := h'
  refine ⟨h1.trans k1, h2.trans k2, h3.trans k3, eqs_trans h4 k4, h5.trans k5, fun j hj => ?_⟩
  obtain ⟨q1, q2⟩ := h6 j hj
  obtain ⟨r1, r2⟩ := k6 j (by rw [← h5]; exact hj)
  refine ⟨q1.trans r1, fun t ht => ?_⟩
  obtain ⟨a1, a2, a3, a4, a5, a6, a7⟩ := q2 t ht
  obtain ⟨b1, b2, b3, b4, b5, b6, b7⟩ := r2 t (by rw [← q1]; exact ht)
  exact ⟨a1.trans b1, a2.trans b2, a3.trans b3, a4.trans b4, a5.trans b5, eqs_trans a6 b6, eqs_trans a7 b7⟩
theorem eqM_symm {M N : MV} (h : EqM M N) : EqM N M :=
  ⟨⟨h.ext.1.symm, fun i hi => by have := h.ext.2 i (by rw [h.ext.1]; exact hi); exact ⟨this.1.symm, this.2.1.symm, eqs_symm this.2.2⟩⟩, ⟨h.glo.1.symm, fun i hi => by have := h.glo.2 i (by rw [h.glo.1]; exact hi); exact ⟨this.1.symm, eqs_symm this.2⟩⟩, ⟨h.tab.1.symm, fun i hi => by have := h.tab.2 i (by rw [h.tab.1]; exact hi); exact ⟨this.1.symm, eqs_symm this.2⟩⟩, ⟨h.fns.1.symm, fun i hi => eqF_symm (h.fns.2 i (by rw [h.fns.1]; exact hi))⟩⟩
theorem eqM_trans {M N O : MV} (h : EqM M N) (k : EqM N O) : EqM M O :=
  ⟨⟨h.ext.1.trans k.ext.1, fun i hi => by have a := h.ext.2 i hi; have b := k.ext.2 i (by rw [← h.ext.1]; exact hi); exact ⟨a.1.trans b.1, a.2.1.trans b.2.1, eqs_trans a.2.2 b.2.2⟩⟩, ⟨h.glo.1.trans k.glo.1, fun i hi => by have a := h.glo.2 i hi; have b := k.glo.2 i (by rw [← h.glo.1]; exact hi); exact ⟨a.1.trans b.1, eqs_trans a.2 b.2⟩⟩, ⟨h.tab.1.trans k.tab.1, fun i hi => by have a := h.tab.2 i hi; have b := k.tab.2 i (by rw [← h.tab.1]; exact hi); exact ⟨a.1.trans b.1, eqs_trans a.2 b.2⟩⟩, ⟨h.fns.1.trans k.fns.1, fun i hi => eqF_trans (h.fns.2 i hi) (k.fns.2 i (by rw [← h.fns.1]; exact hi))⟩⟩

/-- A module of one function. -/
abbrev soleM (b : Nat) (G : FV) : MV := ⟨⟨none, 0, 0⟩, ⟨none, 0, 0⟩, ⟨none, 0, 0⟩, ⟨some ⟨b, 0, none⟩, 1, 1⟩, fun _ => default, fun _ _ => 0, fun _ => default, fun _ _ => 0, fun _ => default, fun _ _ => 0, fun _ => G⟩

theorem sole_in {w : World} {b : Nat} {G : FV} (h : In w G) (hc : FAt w b 0 G) : InM w (soleM b G) := by
  have nil : ∀ {α : Type} {z : Nat} {p : World → Nat → Nat → α → Prop} {f : Nat → α}, Row z p w ⟨none, 0, 0⟩ f := ⟨Nat.le_refl _, Nat.zero_le _, fun _ => rfl, fun h => absurd h (by simp)⟩
  refine ⟨nil, fun i hi => absurd hi (Nat.not_lt_zero _), nil, fun i hi => absurd hi (Nat.not_lt_zero _), nil, fun i hi => absurd hi (Nat.not_lt_zero _), ⟨Nat.le_refl _, by show (1 : Nat) ≤ 140737488355328; decide, fun e => by simp at e, fun _ => ⟨b, 0, rfl, fun i hi => ?_⟩⟩, fun k hk => h⟩
  have hi' : i < 1 := hi
  obtain rfl : i = 0 := by omega
  simpa using hc

theorem sole_small {b : Nat} {G : FV} (hl : Light G) : SmallM (soleM b G) :=
  ⟨Nat.zero_le _, Nat.zero_le _, Nat.zero_le _, by show 1 ≤ 26; decide, fun i hi => absurd hi (Nat.not_lt_zero _), fun i hi => absurd hi (Nat.not_lt_zero _), fun i hi => absurd hi (Nat.not_lt_zero _), fun k hk => hl, by show cnt (fun k => fsize G) 1 ≤ 160; simp only [cnt, fsize]; have := hl.all; omega⟩

theorem sole_wr {p : Nat → Prop} {w : World} {b : Nat} {G : FV} (h : WrF p w G) : WrM p w (soleM b G) :=
  ⟨fun i hi => absurd hi (Nat.not_lt_zero _), fun i hi => absurd hi (Nat.not_lt_zero _), fun i hi => absurd hi (Nat.not_lt_zero _), fun k hk => h⟩

end Go.Proofs.Ythaedlnefikigaa.CpM
