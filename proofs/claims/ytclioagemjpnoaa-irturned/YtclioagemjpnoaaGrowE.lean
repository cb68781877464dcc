/-
  Rows that grow by append, of a module's parts: plnref3.Copy, what holds between its steps.
-/
import Derived.Test.YtclioagemjpnoaaCopyH
import Derived.Test.YtclioagemjpnoaaCopyM4
namespace Go.Proofs.Ytclioagemjpnoaa.CpM
open Go.RowKit View Rd Copy Srt Go.Proofs.Ytclioagemjpnoaa.Own Go.Proofs.Ytclioagemjpnoaa.Mod

set_option linter.unusedVariables false

/-- k things were copied into the row v; each holds (El), its blocks (Fp) are none of the row's. -/
structure Grow {α : Type} (X0 T z k : Nat) (w : World) (v : Value) (cs : Nat → α → List Value) (El : World → Nat → α → Prop) (Fp : α → Nat → Prop) (t : Nat → α) : Prop where
  own : w.ownsRow X0 T z v k (fl (fun i => cs i (t i)) k)
  el : ∀ i, i < k → El w i (t i)
  fp : ∀ i, i < k → ∀ b, Fp (t i) b → X0 ≤ b ∧ b < w.heap.size ∧ some b ≠ v.ownBlock
  dis : ∀ i j, i < k → j < k → i ≠ j → ∀ b, Fp (t i) b → ¬ Fp (t j) b

def Stable {α : Type} (El : World → Nat → α → Prop) (Fp : α → Nat → Prop) : Prop :=
  ∀ (w w' : World) (i : Nat) (a : α), El w i a → w.heap.size ≤ w'.heap.size → (∀ b, Fp a b → b < w.heap.size → w'.heap[b]? = w.heap[b]?) → El w' i a

theorem Grow.keep {α : Type} {X0 T z k : Nat} {w w' : World} {v : Value} {cs : Nat → α → List Value} {El : World → Nat → α → Prop} {Fp : α → Nat → Prop} {t : Nat → α} (st : Stable El Fp) (h : Grow X0 T z k w v cs El Fp t) (hz : w.heap.size ≤ w'.heap.size)
    (hb : ∀ b, X0 ≤ b → b < w.heap.size → w'.heap[b]? = w.heap[b]?) : Grow X0 T z k w' v cs El Fp t := by
  refine ⟨⟨h.own.1, ?_⟩, fun i hi => st w w' i _ (h.el i hi) hz (fun b hf hlt => hb b (h.fp i hi b hf).1 hlt), fun i hi b hf => ⟨(h.fp i hi b hf).1, Nat.lt_of_lt_of_le (h.fp i hi b hf).2.1 hz, (h.fp i hi b hf).2.2⟩, h.dis⟩
  rcases h.own.2 with q | ⟨g, cap, cur, h1, h2, h3, h4⟩
  · exact .inl q
  · exact .inr ⟨g, cap, cur, h1, h2, by rw [hb g h2 (Array.getElem?_eq_some_iff.1 h3).1]; exact h3, h4⟩

theorem Grow.step {α : Type} {X0 T z k : Nat} {w w2 w4 : World} {v v' : Value} {cs : Nat → α → List Value} {El : World → Nat → α → Prop} {Fp : α → Nat → Prop} {t : Nat → α} (st : Stable El Fp) (h : Grow X0 T z k w v cs El Fp t) (h0 : X0 ≤ w.heap.size) {a : α} {o : Obj} (hb2 : Below w.heap.size w w2) (ha : El w2 k a)
    (hf : ∀ b, Fp a b → w.heap.size ≤ b ∧ b < w2.heap.size) (own4 : w4.ownsRow X0 T z v' (k + 1) (fl (fun i => cs i (t i)) k ++ cs k a)) (gr : (w2.alloc o).grownBy w4 v.ownBlock) (hat : v'.ownBlock = v.ownBlock ∨ v'.ownBlock = some (w2.heap.size + 1)) :
    ∃ t, Grow X0 T z (k + 1) w4 v' cs El Fp t := by
  have z2 := hb2.size
  have z4 := gr.size
  simp only [World.size_alloc] at z4
  have vl := h.own.lt
  have nv : ∀ b, b < w2.heap.size → some b ≠ v.ownBlock → some b ≠ v'.ownBlock := fun b hb hne e => by
    rcases hat with h' | h'
    · rw [h'] at e; exact hne e
    · rw [h'] at e; have := Option.some.inj e; omega
  have kb : ∀ b, b < w2.heap.size → some b ≠ v.ownBlock → w4.heap[b]? = w2.heap[b]? := fun b hb hne => by rw [gr.block b (by simp; omega) hne, Below.heap_alloc _ _ _ hb]
  have newv : ∀ b, w.heap.size ≤ b → some b ≠ v.ownBlock := fun b hb e => by have := (vl b e.symm).2; omega
  refine ⟨fun i => if i < k then t i else a, ?_, fun i hi => ?_, fun i hi b hfb => ?_, fun i j hi hj hne b h1 h2 => ?_⟩
  · have e : fl (fun i => cs i (if i < k then t i else a)) (k + 1) = fl (fun i => cs i (t i)) k ++ cs k a := by
      rw [fl, fl_congr (d := fun i => cs i (t i)) (fun i hi => by simp [hi])]
      simp
    rw [e]; exact own4
  · rcases Nat.lt_or_eq_of_le (Nat.le_of_lt_succ hi) with h' | rfl
    · simp only [h', if_true]
      refine st w w4 i _ (h.el i h') (by omega) (fun b hfb hlt => ?_)
      rw [kb b (by omega) (h.fp i h' b hfb).2.2, hb2.block b hlt]
    · simp only [Nat.lt_irrefl, if_false]
      exact st w2 w4 i a ha (by omega) (fun b hfb hlt => kb b hlt (newv b (hf b hfb).1))
  · rcases Nat.lt_or_eq_of_le (Nat.le_of_lt_succ hi) with h' | rfl
    · simp only [h', if_true] at hfb
      obtain ⟨q1, q2, q3⟩ := h.fp i h' b hfb
      exact ⟨q1, by omega, nv b (by omega) q3⟩
    · simp only [Nat.lt_irrefl, if_false] at hfb
      obtain ⟨q1, q2⟩ := hf b hfb
      exact ⟨by omega, by omega, nv b q2 (newv b q1)⟩
  · by_cases ei : i < k
    · simp only [ei, if_true] at h1
      by_cases ej : j < k
      · simp only [ej, if_true] at h2
        exact h.dis i j ei ej hne b h1 h2
      · simp only [ej, if_false] at h2
        have := (h.fp i ei b h1).2.1
        have := (hf b h2).1
        omega
    · simp only [ei, if_false] at h1
      by_cases ej : j < k
      · simp only [ej, if_true] at h2
        have := (h.fp j ej b h2).2.1
        have := (hf b h1).1
        omega
      · omega

def FpS (t : Sl) (b : Nat) : Prop := 0 < t.n ∧ b = blkOf t

theorem elS_stable (N : Nat → Nat) (C : Nat → Nat → Int) (base : Nat) : Stable (ElS N C base) FpS := fun w w' i a h hz hb =>
  ⟨h.1, ints_blk h.2.2 h.2.1 hz (fun h0 => hb _ ⟨h0, rfl⟩ (mine_blk h.2.2 h0).2.2.1), mine_kept h.2.2 hz (fun h0 => hb _ ⟨h0, rfl⟩ (mine_blk h.2.2 h0).2.2.1)⟩

def FpF (T : FV) (b : Nat) : Prop := (∃ x, has T x ∧ 0 < (sl T x).n ∧ b = blkOf (sl T x)) ∨ (0 < T.par.n ∧ b = blkOf T.par) ∨ (0 < T.blk.n ∧ b = blkOf T.blk)

theorem own_fp {base : Nat} {w w' : World} {F : FV} {at_ : Own.Id → Nat} (h : Own base w F at_) (hz : w.heap.size ≤ w'.heap.size) (hb : ∀ b, FpF F b → b < w.heap.size → w'.heap[b]? = w.heap[b]?) : Own base w' F at_ := by
  have kp : Kept (fun b => FpF F b ∧ b < w.heap.size) w w' := ⟨hz, fun b hh => hb b hh.1 hh.2⟩
  have fx : ∀ x, has F x → 0 < (sl F x).n → FpF F (at_ x) := fun x hx h0 => .inl ⟨x, hx, h0, (blkOf_eq (h.adr x hx h0)).symm⟩
  have m1 : ∀ s : Sl, Mine base w.heap.size w s → (0 < s.n → FpF F (blkOf s)) → Mine base w'.heap.size w' s := fun s m hf => mine_kept m hz (fun h0 => hb _ (hf h0) (mine_blk m h0).2.2.1)
  refine ⟨⟨?_, ?_, fun j hj => ?_, fun j hj k hk => ?_, fun j hj k hk => ?_⟩, h.adr, h.ge, fun x hx h0 => Nat.lt_of_lt_of_le (h.lt x hx h0) hz, fun x hx h0 i => by rw [World.frozen?_of_block (w := w) (hb _ (fx x hx h0) (h.lt x hx h0))]; exact h.fz x hx h0 i, h.sep, h.par, h.blk, m1 _ h.pm (fun h0 => .inr (.inl ⟨h0, rfl⟩)), m1 _ h.bm (fun h0 => .inr (.inr ⟨h0, rfl⟩))⟩
  · exact h.inn.par.kept kp fun b o e h0 => ⟨.inr (.inl ⟨h0, (blkOf_eq e).symm⟩), Ints_lt h.inn.par b o e h0⟩
  · exact Sls_kept h.inn.blk kp fun b o e h0 => ⟨.inr (.inr ⟨h0, (blkOf_eq e).symm⟩), Sls_lt h.inn.blk b o e h0⟩
  · exact Inss_kept (h.inn.ins j hj) kp fun b o e h0 => ⟨.inl ⟨.row j, hj, h0, (blkOf_eq e).symm⟩, Inss_lt (h.inn.ins j hj) b o e h0⟩
  · exact (h.inn.args j hj k hk).kept kp fun b o e h0 => ⟨.inl ⟨.arg j k, ⟨hj, hk⟩, h0, (blkOf_eq e).symm⟩, Ints_lt (h.inn.args j hj k hk) b o e h0⟩
  · exact (h.inn.into j hj k hk).kept kp fun b o e h0 => ⟨.inl ⟨.int j k, ⟨hj, hk⟩, h0, (blkOf_eq e).symm⟩, Ints_lt (h.inn.into j hj k hk) b o e h0⟩

theorem elF_stable (F : Nat → FV) (base : Nat) : Stable (ElF F base) FpF := fun w w' i a h hz hb => by
  obtain ⟨at_, h1, h2, h3⟩ := h
  exact ⟨at_, own_fp h1 hz hb, h2, h3⟩

theorem fpF_in {base : Nat} {w : World} {F : FV} {at_ : Own.Id → Nat} (h : Own base w F at_) : ∀ b, FpF F b → base ≤ b ∧ b < w.heap.size := fun b hf => by
  rcases hf with ⟨x, hx, h0, rfl⟩ | ⟨h0, rfl⟩ | ⟨h0, rfl⟩
  · rw [blkOf_eq (h.adr x hx h0)]; exact ⟨h.ge x hx h0, h.lt x hx h0⟩
  · exact ⟨(mine_blk h.pm h0).2.1, (mine_blk h.pm h0).2.2.1⟩
  · exact ⟨(mine_blk h.bm h0).2.1, (mine_blk h.bm h0).2.2.1⟩

/-- In the loop that began at ws: the row lies in the variable's field f; what lay there when it began, lies there still. -/
structure GSt {α : Type} (w ws : World) (V T z k f : Nat) (cs : Nat → α → List Value) (El : Nat → World → Nat → α → Prop) (Fp : α → Nat → Prop) (wr : World) (v : Value) (t : Nat → α) : Prop where
  g : Grow ws.heap.size T z k wr v cs (El ws.heap.size) Fp t
  c : wr.cell? ⟨V, f, none⟩ = some v
  o : ∀ i, i ≠ f → wr.cell? ⟨V, i, none⟩ = ws.cell? ⟨V, i, none⟩
  kp : ∀ b, b ≠ V → b < ws.heap.size → wr.heap[b]? = ws.heap[b]?
  fz : ∀ i, wr.frozen? ⟨V, i, none⟩ = false
  low : Below w.heap.size w wr
  size : ws.heap.size ≤ wr.heap.size
  lt : V < ws.heap.size
  ge : w.heap.size + 2 ≤ V

theorem GSt.start {α : Type} {w ws : World} {V T z f : Nat} {cs : Nat → α → List Value} {El : Nat → World → Nat → α → Prop} {Fp : α → Nat → Prop} (a : α) (hc : ws.cell? ⟨V, f, none⟩ = some (.slice none 0 0)) (fz : ∀ i, ws.frozen? ⟨V, i, none⟩ = false) (low : Below w.heap.size w ws) (lt : V < ws.heap.size) (ge : w.heap.size + 2 ≤ V) :
    GSt w ws V T z 0 f cs El Fp ws (.slice none 0 0) (fun _ => a) :=
  ⟨⟨World.ownsRow_nil _ _ _ _, fun i hi => by omega, fun i hi => by omega, fun i j hi => by omega⟩, hc, fun _ _ => rfl, fun _ _ _ => rfl, fz, low, Nat.le_refl _, lt, ge⟩

theorem GSt.on {α : Type} {w ws : World} {V T z k f : Nat} {cs : Nat → α → List Value} {El : Nat → World → Nat → α → Prop} {Fp : α → Nat → Prop} {wr wx : World} {v : Value} {t : Nat → α} (st : Stable (El ws.heap.size) Fp) (h : GSt w ws V T z k f cs El Fp wr v t) (hb : Below wr.heap.size wr wx) : GSt w ws V T z k f cs El Fp wx v t := by
  have lt' : V < wr.heap.size := Nat.lt_of_lt_of_le h.lt h.size
  exact ⟨h.g.keep st hb.size (fun b _ hlt => hb.block b hlt), cell_on hb h.c, fun i hi => by rw [hb.cell lt']; exact h.o i hi, fun b hb1 hb2 => by rw [hb.block b (Nat.lt_of_lt_of_le hb2 h.size)]; exact h.kp b hb1 hb2, fun i => by rw [hb.frozen lt']; exact h.fz i, more h.low hb, Nat.le_trans h.size hb.size, h.lt, h.ge⟩

theorem GSt.step {α : Type} {w ws : World} {V T z k f : Nat} {cs : Nat → α → List Value} {El : Nat → World → Nat → α → Prop} {Fp : α → Nat → Prop} {wr w2 w4 : World} {v v' : Value} {t : Nat → α} (st : Stable (El ws.heap.size) Fp) (h : GSt w ws V T z k f cs El Fp wr v t) {a : α} {o : Obj} (hb2 : Below wr.drew.heap.size wr.drew w2) (ha : El ws.heap.size w2 k a)
    (hf : ∀ b, Fp a b → wr.heap.size ≤ b ∧ b < w2.heap.size) (own4 : w4.ownsRow ws.heap.size T z v' (k + 1) (fl (fun i => cs i (t i)) k ++ cs k a)) (gr : (w2.alloc o).grownBy w4 v.ownBlock) (hat : v'.ownBlock = v.ownBlock ∨ v'.ownBlock = some (w2.heap.size + 1)) :
    ∃ t, GSt w ws V T z (k + 1) f cs El Fp (w4.setCell ⟨V, f, none⟩ v') v' t := by
  have hb2' : Below wr.heap.size wr w2 := more (Below.drew (same wr)) hb2
  have z2 := hb2'.size
  have z4 := gr.size
  simp only [World.size_alloc] at z4
  have z0 := h.size
  have hlt := h.lt
  have hge := h.ge
  obtain ⟨t', g'⟩ := h.g.step st h.size hb2' ha hf own4 gr hat
  have vl := h.g.own.lt
  have nv : ∀ b, b < ws.heap.size → some b ≠ v.ownBlock := fun b hb e => by have := (vl b e.symm).1; omega
  have kb : ∀ b, b < ws.heap.size → w4.heap[b]? = wr.heap[b]? := fun b hb => by rw [gr.block b (by simp; omega) (nv b hb), Below.heap_alloc _ _ _ (by omega), hb2'.block b (by omega)]
  have lo4 : Below w.heap.size w w4 := by
    have l2 := more h.low hb2'
    refine (l2.alloc l2.size _).grown gr (by simp; have := l2.size; omega) (fun g hg => ?_)
    have := (vl g hg).1
    omega
  refine ⟨t', g'.keep st (by simp) (fun b hb _ => Below.heap_setCell _ _ _ _ (by show b ≠ V; omega)), ?_, fun i hi => ?_, fun b hb1 hb2 => ?_, fun i => ?_, lo4.setCell (by show _ ≤ V; omega) _, by simp; omega, hlt, hge⟩
  · exact cell_same (u := v) (by rw [World.cell?_of_block (w := wr) (kb V hlt)]; exact h.c)
  · rw [World.cell?_setCell_other (h := ne_off (fun e => hi e.symm)), World.cell?_of_block (w := wr) (kb V hlt)]; exact h.o i hi
  · rw [Below.heap_setCell _ _ _ _ hb1, kb b hb2]; exact h.kp b hb1 hb2
  · rw [World.frozen?_setCell, World.frozen?_of_block (w := wr) (kb V hlt)]; exact h.fz i

def SX (W : World) (B xb : Nat) (wy : World) : Prop := Below B W wy ∧ wy.heap[xb]? = W.heap[xb]?

theorem app_gen {w2 : World} {X0 T sT z bytes k : Nat} {zero v : Value} {xs : List Value} (hT : Try.prog.underlying sT = some (.slice T)) (hI : (Try.prog.info? T).map (fun i => (i.zero, i.size, i.bytes)) = some (some zero, z, bytes)) (hzs : zero.cells.size = z) (hz : 0 < z) (hb : bytes ≤ 1000)
    (own : w2.ownsRow X0 T z v k xs) (hk : k ≤ 1000) (hbase : X0 ≤ w2.heap.size) (cs : Array Value) (hc : cs.toList.length = z) (h1 : ∀ u ∈ cs.toList, u.oneCell' = true) (ty : TypeId) :
    ∃ v' w4, (Builtin.append_ #[sT, sT] ty #[v, .slice (some ⟨w2.heap.size, 0, none⟩) 1 1]).run Try.prog (w2.alloc (.cells cs T)) = .ok v' w4 ∧ w4.ownsRow X0 T z v' (k + 1) (xs ++ cs.toList) ∧ (w2.alloc (.cells cs T)).grownBy w4 v.ownBlock ∧ (v'.ownBlock = v.ownBlock ∨ v'.ownBlock = some (w2.heap.size + 1)) := by
  obtain ⟨i0, hi, hz0, hz1, hz2⟩ := info_parts hI
  have hle : (k + 1) * bytes ≤ 1001 * 1000 := Nat.mul_le_mul (by omega) hb
  obtain ⟨v', w4, q1, q2, q3, _, q5⟩ := run_append_own_at (P := Try.prog) (w2.alloc (.cells cs T)) X0 sT ty T i0 zero z bytes hT hi hz0 hz1 hz2 hzs hz v k _ (own.alloc _) ⟨w2.heap.size, 0, none⟩ 1 1 cs.toList (by rw [hc, Nat.one_mul]) (cells_new _ _ _) h1 (by simp only [maxLen]; omega) (by omega) (by simp; omega)
  exact ⟨v', w4, q1, q2, q3, by simpa using q5⟩

theorem run_append_copy64 (s : Sl) (f : Nat → Int) (w : World) (ty : TypeId) (hs : Ints w s f) (hn : s.n ≤ 1000) :
    ∃ (t : Sl) (w' : World), (Builtin.append_ #[69, 69] ty #[.slice none 0 0, .slice s.a s.n s.c]).run Try.prog w = .ok (.slice t.a t.n t.c) w' ∧ t.n = s.n ∧ Ints w' t f ∧ Mine w.heap.size w'.heap.size w' t ∧ Below w.heap.size w w' := by
  obtain ⟨i0, hi, hz0, hz1, hz2⟩ := info_parts info2
  obtain ⟨ao, m, c⟩ := s
  cases ao with
  | some ad =>
    obtain ⟨v', w', hrun, hown, hgr, _, _⟩ := run_append_own_at (P := Try.prog) w w.heap.size 69 ty 2 i0 (.int .i64 0) 1 8 underlying69 hi hz0 hz1 hz2 rfl (by decide) (.slice none 0 0) 0 [] (World.ownsRow_nil _ _ _ _) ad m c ((row f m).map (Value.int .i64)) (by simp [row_length]) (row_cells hs) (ints_oneCell _ _) (by simp only [maxLen] at *; omega) (by simp only at *; omega) (Nat.le_refl _)
    simp only [Nat.zero_add, List.nil_append] at hown
    obtain ⟨t, rfl, ht, hti, htm⟩ := ints_of_owns64 hown (by simp only at hn; omega)
    exact ⟨t, w', hrun, ht, Ints.congr hti (fun i h => getD_row f m i (by omega)), htm, (Below.refl _ w).grown hgr (Nat.le_refl _) (fun k hk => by cases hk)⟩
  | none =>
    have hc0 := hs.2.2.1 rfl
    have hm0 := hs.1
    simp only at hc0 hm0
    subst hc0
    obtain rfl : m = 0 := by omega
    refine ⟨⟨none, 0, 0⟩, w, ?_, rfl, ⟨Nat.le_refl _, Nat.zero_le _, fun _ => rfl, fun h => absurd h (by simp)⟩, fun h => absurd h (by simp), same w⟩
    simp [Builtin.append_, run_underlying underlying69, sizeOf, typeInfo, hi, Builtin.lenOf, Builtin.firstCells]

theorem grow_row {α β : Type} {X0 T z n : Nat} {w : World} {s : Sl} {cs : Nat → α → List Value} {El : World → Nat → α → Prop} {Fp : α → Nat → Prop} {t : Nat → α} {p : World → Nat → Nat → β → Prop} {f : Nat → β} (h : Grow X0 T z n w (slv s) cs El Fp t) (hn : n ≤ 1000) (hz : ∀ i a, (cs i a).length = z)
    (hp : ∀ g i, i < n → (∀ r, r < z → w.cell? ⟨g, i * z + r, none⟩ = (cs i (t i))[r]?) → p w g (i * z) (f i)) : s.n = n ∧ Row z p w s f := by
  obtain ⟨sa, sn, sc⟩ := s
  rcases h.own.2 with ⟨e, rfl⟩ | ⟨g, cap, cur, e, hb, hg, hnc, hm, hs, ht⟩
  · simp [slv] at e
    obtain ⟨rfl, rfl, rfl⟩ := e
    exact ⟨rfl, Nat.le_refl _, Nat.zero_le _, fun _ => rfl, fun h => absurd h (by simp)⟩
  · simp [slv] at e
    obtain ⟨rfl, rfl, rfl⟩ := e
    refine ⟨rfl, hnc, by show sn ≤ _; omega, fun e => by simp at e, fun h0 => ⟨g, 0, rfl, fun i hi => ?_⟩⟩
    rw [Nat.zero_add]
    simp only at hi
    refine hp g i hi fun r hr => ?_
    have hlt : i * z + r < sn * z := by have := Nat.mul_le_mul_right z (show i + 1 ≤ sn from hi); rw [Nat.succ_mul] at this; omega
    rw [h.own.cellAt (i * z + r) hlt, fl_at (fun i => hz i _) sn i r hi hr]

end Go.Proofs.Ytclioagemjpnoaa.CpM
