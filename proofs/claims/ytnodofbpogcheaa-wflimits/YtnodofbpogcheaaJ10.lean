/-
  GrowX, LxZ, Low, Wlb: laid together.
-/
import Derived.Test.YtnodofbpogcheaaJ2
import Derived.Test.YtnodofbpogcheaaJ0
import Derived.Maps.AppendAt
import Derived.Laws.AppendOwnNone
import Derived.Deep.RegionHeld3
import Derived.Lib.ItoaLen
import Derived.Laws.BytesString
import Derived.Test.YtnodofbpogcheaaJ1
import Derived.Test.YtnodofbpogcheaaJ9
/-
  Rows that grow by append, in a variable of their own or in a field of one (of the walks that build modules).
-/
namespace Go.Proofs.Ytnodofbpogcheaa.Wl
open Go.RowKit View Rd Copy Go.Proofs.Ytnodofbpogcheaa.Mod

set_option linter.unusedVariables false

abbrev slv (s : Sl) : Value := .slice s.a s.n s.c

theorem owns_slv {w : World} {base e z n : Nat} {v : Value} {xs : List Value} (h : w.ownsRow base e z v n xs) : ∃ s : Sl, v = slv s := by
  rcases h.2 with ⟨rfl, _⟩ | ⟨g, cap, _, rfl, _⟩
  · exact ⟨⟨none, 0, 0⟩, rfl⟩
  · exact ⟨⟨some ⟨g, 0, none⟩, n, cap⟩, rfl⟩

theorem cells_new (w : World) (cs : Array Value) (t : TypeId) : ∀ j u, cs.toList[j]? = some u → (w.alloc (.cells cs t)).cell? ((⟨w.heap.size, 0, none⟩ : Addr).add j) = some u := by
  intro j u h
  have e : (⟨w.heap.size, 0, none⟩ : Addr).add j = ⟨w.heap.size, j, none⟩ := by simp [Addr.add_lit]
  rw [e]
  simpa using h

/-- Rows of cells, one behind the other. -/
def fl (c : Nat → List Value) : Nat → List Value
  | 0 => []
  | k + 1 => fl c k ++ c k

theorem fl_length {c : Nat → List Value} {z : Nat} (h : ∀ i, (c i).length = z) : ∀ k, (fl c k).length = k * z
  | 0 => by simp [fl]
  | k + 1 => by rw [fl, List.length_append, fl_length h k, h, Nat.succ_mul]

theorem fl_congr {c d : Nat → List Value} : ∀ {k : Nat}, (∀ t, t < k → c t = d t) → fl c k = fl d k
  | 0, _ => rfl
  | k + 1, h => by rw [fl, fl, fl_congr (fun t ht => h t (by omega)), h k (by omega)]

theorem fl_at {c : Nat → List Value} {z : Nat} (h : ∀ i, (c i).length = z) : ∀ k t r, t < k → r < z → (fl c k)[t * z + r]? = (c t)[r]?
  | 0, t, r, ht, _ => by omega
  | k + 1, t, r, ht, hr => by
    rw [fl]
    rcases Nat.lt_or_eq_of_le (Nat.le_of_lt_succ ht) with h' | rfl
    · rw [List.getElem?_append_left (by rw [fl_length h]; have := Nat.mul_le_mul_right z (show t + 1 ≤ k from h'); rw [Nat.succ_mul] at this; omega)]
      exact fl_at h k t r h' hr
    · rw [List.getElem?_append_right (by rw [fl_length h]; omega), fl_length h]
      congr 1
      omega

/-- k things were copied into the row v; each holds (El), its blocks (Fp) are none of the row's. -/
structure Grow {α : Type} (X0 T z k : Nat) (w : World) (v : Value) (cs : Nat → α → List Value) (El : World → Nat → α → Prop) (Fp : α → Nat → Prop) (t : Nat → α) : Prop where
  own : w.ownsRow X0 T z v k (fl (fun i => cs i (t i)) k)
  el : ∀ i, i < k → El w i (t i)
  fp : ∀ i, i < k → ∀ b, Fp (t i) b → X0 ≤ b ∧ b < w.heap.size ∧ some b ≠ v.ownBlock
  dis : ∀ i j, i < k → j < k → i ≠ j → ∀ b, Fp (t i) b → ¬ Fp (t j) b

def Stable {α : Type} (El : World → Nat → α → Prop) (Fp : α → Nat → Prop) : Prop :=
  ∀ (w w' : World) (i : Nat) (a : α), El w i a → w.heap.size ≤ w'.heap.size → (∀ b, Fp a b → b < w.heap.size → w'.heap[b]? = w.heap[b]?) → El w' i a

theorem Grow.keep {α : Type} {X0 T z k : Nat} {w w' : World} {v : Value} {cs : Nat → α → List Value} {El : World → Nat → α → Prop} {Fp : α → Nat → Prop} {t : Nat → α} (st : Stable El Fp) (h : Grow X0 T z k w v cs El Fp t) (hz : w.heap.size ≤ w'.heap.size)
    (hb : ∀ b, X0 ≤ b → b < w.heap.size → w'.heap[b]? = w.heap[b]?) : Grow X0 T z k w' v cs El Fp t := by
  refine ⟨⟨h.own.1, ?_⟩, fun i hi => st w w' i _ (h.el i hi) hz (fun b hf hlt => hb b (h.fp i hi b hf).1 hlt), fun i hi b hf => ⟨(h.fp i hi b hf).1, Nat.lt_of_lt_of_le (h.fp i hi b hf).2.1 hz, (h.fp i hi b hf).2.2⟩, h.dis⟩
  rcases h.own.2 with q | ⟨g, cap, cur, h1, h2, h3, h4⟩
  · exact .inl q
  · exact .inr ⟨g, cap, cur, h1, h2, by rw [hb g h2 (Array.getElem?_eq_some_iff.1 h3).1]; exact h3, h4⟩

theorem Grow.step {α : Type} {X0 T z k : Nat} {w w2 w4 : World} {v v' : Value} {cs : Nat → α → List Value} {El : World → Nat → α → Prop} {Fp : α → Nat → Prop} {t : Nat → α} (st : Stable El Fp) (h : Grow X0 T z k w v cs El Fp t) (h0 : X0 ≤ w.heap.size) {a : α} {o : Obj} (hb2 : Below w.heap.size w w2) (ha : El w2 k a)
    (hf : ∀ b, Fp a b → w.heap.size ≤ b ∧ b < w2.heap.size) (own4 : w4.ownsRow X0 T z v' (k + 1) (fl (fun i => cs i (t i)) k ++ cs k a)) (gr : (w2.alloc o).grownBy w4 v.ownBlock) (hat : v'.ownBlock = v.ownBlock ∨ v'.ownBlock = some (w2.heap.size + 1)) :
    ∃ t, Grow X0 T z (k + 1) w4 v' cs El Fp t := by
  have z2 := hb2.size
  have z4 := gr.size
  simp only [World.size_alloc] at z4
  have vl := h.own.lt
  have nv : ∀ b, b < w2.heap.size → some b ≠ v.ownBlock → some b ≠ v'.ownBlock := fun b hb hne e => by
    rcases hat with h' | h'
    · rw [h'] at e; exact hne e
    · rw [h'] at e; have := Option.some.inj e; omega
  have kb : ∀ b, b < w2.heap.size → some b ≠ v.ownBlock → w4.heap[b]? = w2.heap[b]? := fun b hb hne => by rw [gr.block b (by simp; omega) hne, Below.heap_alloc _ _ _ hb]
  have newv : ∀ b, w.heap.size ≤ b → some b ≠ v.ownBlock := fun b hb e => by have := (vl b e.symm).2; omega
  refine ⟨fun i => if i < k then t i else a, ?_, fun i hi => ?_, fun i hi b hfb => ?_, fun i j hi hj hne b h1 h2 => ?_⟩
  · have e : fl (fun i => cs i (if i < k then t i else a)) (k + 1) = fl (fun i => cs i (t i)) k ++ cs k a := by
      rw [fl, fl_congr (d := fun i => cs i (t i)) (fun i hi => by simp [hi])]
      simp
    rw [e]; exact own4
  · rcases Nat.lt_or_eq_of_le (Nat.le_of_lt_succ hi) with h' | rfl
    · simp only [h', if_true]
      refine st w w4 i _ (h.el i h') (by omega) (fun b hfb hlt => ?_)
      rw [kb b (by omega) (h.fp i h' b hfb).2.2, hb2.block b hlt]
    · simp only [Nat.lt_irrefl, if_false]
      exact st w2 w4 i a ha (by omega) (fun b hfb hlt => kb b hlt (newv b (hf b hfb).1))
  · rcases Nat.lt_or_eq_of_le (Nat.le_of_lt_succ hi) with h' | rfl
    · simp only [h', if_true] at hfb
      obtain ⟨q1, q2, q3⟩ := h.fp i h' b hfb
      exact ⟨q1, by omega, nv b (by omega) q3⟩
    · simp only [Nat.lt_irrefl, if_false] at hfb
      obtain ⟨q1, q2⟩ := hf b hfb
      exact ⟨by omega, by omega, nv b q2 (newv b q1)⟩
  · by_cases ei : i < k
    · simp only [ei, if_true] at h1
      by_cases ej : j < k
      · simp only [ej, if_true] at h2
        exact h.dis i j ei ej hne b h1 h2
      · simp only [ej, if_false] at h2
        have := (h.fp i ei b h1).2.1
        have := (hf b h2).1
        omega
    · simp only [ei, if_false] at h1
      by_cases ej : j < k
      · simp only [ej, if_true] at h2
        have := (h.fp j ej b h2).2.1
        have := (hf b h1).1
        omega
      · omega

theorem app_gen {w2 : World} {X0 T sT z bytes k : Nat} {zero v : Value} {xs : List Value} (hT : Try.prog.underlying sT = some (.slice T)) (hI : (Try.prog.info? T).map (fun i => (i.zero, i.size, i.bytes)) = some (some zero, z, bytes)) (hzs : zero.cells.size = z) (hz : 0 < z) (hb : bytes ≤ 1000)
    (own : w2.ownsRow X0 T z v k xs) (hk : k ≤ 5000) (hbase : X0 ≤ w2.heap.size) (cs : Array Value) (hc : cs.toList.length = z) (h1 : ∀ u ∈ cs.toList, u.oneCell' = true) (ty : TypeId) :
    ∃ v' w4, (Builtin.append_ #[sT, sT] ty #[v, .slice (some ⟨w2.heap.size, 0, none⟩) 1 1]).run Try.prog (w2.alloc (.cells cs T)) = .ok v' w4 ∧ w4.ownsRow X0 T z v' (k + 1) (xs ++ cs.toList) ∧ (w2.alloc (.cells cs T)).grownBy w4 v.ownBlock ∧ (v'.ownBlock = v.ownBlock ∨ v'.ownBlock = some (w2.heap.size + 1)) := by
  obtain ⟨i0, hi, hz0, hz1, hz2⟩ := info_parts hI
  have hle : (k + 1) * bytes ≤ 5001 * 1000 := Nat.mul_le_mul (by omega) hb
  obtain ⟨v', w4, q1, q2, q3, _, q5⟩ := run_append_own_at (P := Try.prog) (w2.alloc (.cells cs T)) X0 sT ty T i0 zero z bytes hT hi hz0 hz1 hz2 hzs hz v k _ (own.alloc _) ⟨w2.heap.size, 0, none⟩ 1 1 cs.toList (by rw [hc, Nat.one_mul]) (cells_new _ _ _) h1 (by simp only [maxLen]; omega) (by omega) (by simp; omega)
  exact ⟨v', w4, q1, q2, q3, by simpa using q5⟩

theorem grow_row {α β : Type} {X0 T z n : Nat} {w : World} {s : Sl} {cs : Nat → α → List Value} {El : World → Nat → α → Prop} {Fp : α → Nat → Prop} {t : Nat → α} {p : World → Nat → Nat → β → Prop} {f : Nat → β} (h : Grow X0 T z n w (slv s) cs El Fp t) (hn : n ≤ 5000) (hz : ∀ i a, (cs i a).length = z)
    (hp : ∀ g i, i < n → (∀ r, r < z → w.cell? ⟨g, i * z + r, none⟩ = (cs i (t i))[r]?) → p w g (i * z) (f i)) : s.n = n ∧ Row z p w s f := by
  obtain ⟨sa, sn, sc⟩ := s
  rcases h.own.2 with ⟨e, rfl⟩ | ⟨g, cap, cur, e, hb, hg, hnc, hm, hs, ht⟩
  · simp [slv] at e
    obtain ⟨rfl, rfl, rfl⟩ := e
    exact ⟨rfl, Nat.le_refl _, Nat.zero_le _, fun _ => rfl, fun h => absurd h (by simp)⟩
  · simp [slv] at e
    obtain ⟨rfl, rfl, rfl⟩ := e
    refine ⟨rfl, hnc, by show sn ≤ _; omega, fun e => by simp at e, fun h0 => ⟨g, 0, rfl, fun i hi => ?_⟩⟩
    rw [Nat.zero_add]
    simp only at hi
    refine hp g i hi fun r hr => ?_
    have hlt : i * z + r < sn * z := by have := Nat.mul_le_mul_right z (show i + 1 ≤ sn from hi); rw [Nat.succ_mul] at this; omega
    rw [h.own.cellAt (i * z + r) hlt, fl_at (fun i => hz i _) sn i r hi hr]

/-- In the loop that began at ws: the row lies in the variable's field f; what lay there when it began, lies there still. -/
structure GSt {α : Type} (w ws : World) (V T z k f : Nat) (cs : Nat → α → List Value) (El : Nat → World → Nat → α → Prop) (Fp : α → Nat → Prop) (wr : World) (v : Value) (t : Nat → α) : Prop where
  g : Grow ws.heap.size T z k wr v cs (El ws.heap.size) Fp t
  c : wr.cell? ⟨V, f, none⟩ = some v
  o : ∀ i, i ≠ f → wr.cell? ⟨V, i, none⟩ = ws.cell? ⟨V, i, none⟩
  kp : ∀ b, b ≠ V → b < ws.heap.size → wr.heap[b]? = ws.heap[b]?
  fz : ∀ i, wr.frozen? ⟨V, i, none⟩ = false
  low : Below w.heap.size w wr
  size : ws.heap.size ≤ wr.heap.size
  lt : V < ws.heap.size
  ge : w.heap.size ≤ V

theorem GSt.start {α : Type} {w ws : World} {V T z f : Nat} {cs : Nat → α → List Value} {El : Nat → World → Nat → α → Prop} {Fp : α → Nat → Prop} (a : α) (hc : ws.cell? ⟨V, f, none⟩ = some (.slice none 0 0)) (fz : ∀ i, ws.frozen? ⟨V, i, none⟩ = false) (low : Below w.heap.size w ws) (lt : V < ws.heap.size) (ge : w.heap.size ≤ V) :
    GSt w ws V T z 0 f cs El Fp ws (.slice none 0 0) (fun _ => a) :=
  ⟨⟨World.ownsRow_nil _ _ _ _, fun i hi => by omega, fun i hi => by omega, fun i j hi => by omega⟩, hc, fun _ _ => rfl, fun _ _ _ => rfl, fz, low, Nat.le_refl _, lt, ge⟩

theorem GSt.on {α : Type} {w ws : World} {V T z k f : Nat} {cs : Nat → α → List Value} {El : Nat → World → Nat → α → Prop} {Fp : α → Nat → Prop} {wr wx : World} {v : Value} {t : Nat → α} (st : Stable (El ws.heap.size) Fp) (h : GSt w ws V T z k f cs El Fp wr v t) (hb : Below wr.heap.size wr wx) : GSt w ws V T z k f cs El Fp wx v t := by
  have lt' : V < wr.heap.size := Nat.lt_of_lt_of_le h.lt h.size
  exact ⟨h.g.keep st hb.size (fun b _ hlt => hb.block b hlt), cell_on hb h.c, fun i hi => by rw [hb.cell lt']; exact h.o i hi, fun b hb1 hb2 => by rw [hb.block b (Nat.lt_of_lt_of_le hb2 h.size)]; exact h.kp b hb1 hb2, fun i => by rw [hb.frozen lt']; exact h.fz i, more h.low hb, Nat.le_trans h.size hb.size, h.lt, h.ge⟩

theorem GSt.stepn {α : Type} {w ws : World} {V T z k f : Nat} {cs : Nat → α → List Value} {El : Nat → World → Nat → α → Prop} {Fp : α → Nat → Prop} {wr w2 w4 : World} {v v' : Value} {t : Nat → α} (st : Stable (El ws.heap.size) Fp) (h : GSt w ws V T z k f cs El Fp wr v t) {a : α} {o : Obj} (hb2' : Below wr.heap.size wr w2) (ha : El ws.heap.size w2 k a)
    (hf : ∀ b, Fp a b → wr.heap.size ≤ b ∧ b < w2.heap.size) (own4 : w4.ownsRow ws.heap.size T z v' (k + 1) (fl (fun i => cs i (t i)) k ++ cs k a)) (gr : (w2.alloc o).grownBy w4 v.ownBlock) (hat : v'.ownBlock = v.ownBlock ∨ v'.ownBlock = some (w2.heap.size + 1)) :
    ∃ t, GSt w ws V T z (k + 1) f cs El Fp (w4.setCell ⟨V, f, none⟩ v') v' t := by
  have z2 := hb2'.size
  have z4 := gr.size
  simp only [World.size_alloc] at z4
  have z0 := h.size
  have hlt := h.lt
  have hge := h.ge
  obtain ⟨t', g'⟩ := h.g.step st h.size hb2' ha hf own4 gr hat
  have vl := h.g.own.lt
  have nv : ∀ b, b < ws.heap.size → some b ≠ v.ownBlock := fun b hb e => by have := (vl b e.symm).1; omega
  have kb : ∀ b, b < ws.heap.size → w4.heap[b]? = wr.heap[b]? := fun b hb => by rw [gr.block b (by simp; omega) (nv b hb), Below.heap_alloc _ _ _ (by omega), hb2'.block b (by omega)]
  have lo4 : Below w.heap.size w w4 := by
    have l2 := more h.low hb2'
    refine (l2.alloc l2.size _).grown gr (by simp; have := l2.size; omega) (fun g hg => ?_)
    have := (vl g hg).1
    omega
  refine ⟨t', g'.keep st (by simp) (fun b hb _ => Below.heap_setCell _ _ _ _ (by show b ≠ V; omega)), ?_, fun i hi => ?_, fun b hb1 hb2 => ?_, fun i => ?_, lo4.setCell (by show _ ≤ V; omega) _, by simp; omega, hlt, hge⟩
  · exact cell_same (u := v) (by rw [World.cell?_of_block (w := wr) (kb V hlt)]; exact h.c)
  · rw [World.cell?_setCell_other (h := ne_off (fun e => hi e.symm)), World.cell?_of_block (w := wr) (kb V hlt)]; exact h.o i hi
  · rw [Below.heap_setCell _ _ _ _ hb1, kb b hb2]; exact h.kp b hb1 hb2
  · rw [World.frozen?_setCell, World.frozen?_of_block (w := wr) (kb V hlt)]; exact h.fz i

theorem GSt.step {α : Type} {w ws : World} {V T z k f : Nat} {cs : Nat → α → List Value} {El : Nat → World → Nat → α → Prop} {Fp : α → Nat → Prop} {wr w2 w4 : World} {v v' : Value} {t : Nat → α} (st : Stable (El ws.heap.size) Fp) (h : GSt w ws V T z k f cs El Fp wr v t) {a : α} {o : Obj} (hb2 : Below wr.drew.heap.size wr.drew w2) (ha : El ws.heap.size w2 k a)
    (hf : ∀ b, Fp a b → wr.heap.size ≤ b ∧ b < w2.heap.size) (own4 : w4.ownsRow ws.heap.size T z v' (k + 1) (fl (fun i => cs i (t i)) k ++ cs k a)) (gr : (w2.alloc o).grownBy w4 v.ownBlock) (hat : v'.ownBlock = v.ownBlock ∨ v'.ownBlock = some (w2.heap.size + 1)) :
    ∃ t, GSt w ws V T z (k + 1) f cs El Fp (w4.setCell ⟨V, f, none⟩ v') v' t :=
  h.stepn st (more (Below.drew (same wr)) hb2) ha hf own4 gr hat

theorem wp_app {P : Program} {o : Oper} {a : Act} {w w' : World} {v' v u : Value} {t : TypeId} {s x : Operand} {K : Act → World → Prop} {Q : Exit → Act → World → Prop} {d : Option Tmp} {ty : TypeId} (ho : o.op = .call { callee := .builtin .append, args := #[s, x], argTypes := #[t, t] }) (hd : o.dst = d) (hty : o.type = ty) (hs : a.eval s = v) (hx : a.eval x = u) (hr : (Builtin.append_ #[t, t] ty #[v, u]).run P w = .ok v' w') (h : K (a.put d v') w') : o.wp P a w K Q := by
  subst hd hty
  unfold Oper.wp execOp
  simp only [ho, resolve, invoke, builtin, Sem.run_bind, Sem.run_pure, Result.andThen_ok, List.map_toArray, List.map_cons, List.map_nil, hs, hx, hr]
  exact h

/-- An operation is taken first; where it leaves its value is told. -/
theorem takeAt {P : Program} {ops : Array Oper} {Q : Exit → Act → World → Prop} {md : Region.Mode} {S : World → Prop} {i : Nat} {oi : Oper} {d : Option Tmp} {v : Value} {fuel : Nat} {listed : Array Bool} {a : Act} {w : World} (hi : ops[i]? = some oi) (hd : oi.dst = d)
    (hs : Region.noSelect ops = true) (hf : Region.free md ops listed i = true) (hr : (Region.ready md ops listed).contains i = true)
    (hQ : ∀ c a w, Q (.panic c) (a.put d v) w → Q (.panic c) a w) (hy : YieldsIf P ops S oi v a) (hS : S w)
    (h : wpAnyH P md ops Q S fuel (listed.setIfInBounds i true) (a.put d v) w) : wpAnyH P md ops Q S (fuel + 1) listed a w := by
  subst hd
  exact wpAnyH_take hi hs hf hr hQ hy hS h

theorem wpList_app {ops : Array Oper} {rest : List Oper} {o : Oper} {a : Act} {Q : Exit → Act → World → Prop} {w w' : World} {v' v u : Value} {t ty : TypeId} (s x : Operand) (hg : o.guard = none) (ho : o.op = .call { callee := .builtin .append, args := #[s, x], argTypes := #[t, t] }) (hty : o.type = ty) (hs : a.eval s = v) (hx : a.eval x = u) (hr : (Builtin.append_ #[t, t] ty #[v, u]).run Try.prog w = .ok v' w') (h : wpList Try.prog ops Q rest (a.put o.dst v') w') : wpList Try.prog ops Q (o :: rest) a w := by
  subst hty
  refine wpList_plain hg fun K hK => ?_
  unfold Oper.wp execOp
  simp only [ho, resolve, invoke, builtin, Sem.run_bind, Sem.run_pure, Result.andThen_ok, List.map_toArray, List.map_cons, List.map_nil, hs, hx, hr]
  exact hK _ _ h

end Go.Proofs.Ytnodofbpogcheaa.Wl

/-
  What the document's own Show answers (plnref1), where lex is not at hand.
-/
namespace Go.Proofs.Ytnodofbpogcheaa.Lx
open Go.RowKit View Rd

set_option linter.unusedVariables false

def W64 (n : Int) : Prop := -9223372036854775808 ≤ n ∧ n ≤ 9223372036854775807

theorem dec_big {u : Nat} (h : ¬ u < 10) : Lib.decDigits u = Lib.decDigits (u / 10) ++ [UInt8.ofNat (48 + u % 10)] := by
  rw [Lib.decDigits, dif_neg h]

def shown (n : Int) : ByteArray := ⟨(Lib.itoa n).toArray⟩

theorem shown_list (n : Int) : (shown n).data.toList = Lib.itoa n := by simp [shown]

theorem shown_size (n : Int) : (shown n).size = (Lib.itoa n).length := by
  have : (shown n).size = (shown n).data.size := rfl
  rw [this, ← Array.length_toList, shown_list]

theorem shown_small {n : Int} (h : W64 n) : (shown n).size ≤ 21 := by rw [shown_size]; exact Lib.itoa_length_le n h.1 h.2

theorem ba_ext {s t : ByteArray} (h : s.data.toList = t.data.toList) : s = t := by
  cases s; cases t; congr 1; exact Array.ext' h

/-- The text of the bytes. -/
def str (xs : List Int) : ByteArray := xs.foldl (fun r n => r.push (UInt8.ofNat n.toNat)) ByteArray.empty

theorem toList_fold (xs : List Int) : ∀ r : ByteArray, (xs.foldl (fun r n => r.push (UInt8.ofNat n.toNat)) r).data.toList = r.data.toList ++ xs.map (fun n => UInt8.ofNat n.toNat) := by
  induction xs with
  | nil => intro r; simp
  | cons x xs ih => intro r; rw [List.foldl_cons, ih]; simp [ByteArray.push]

theorem str_list (xs : List Int) : (str xs).data.toList = xs.map (fun n => UInt8.ofNat n.toNat) := by
  rw [str, toList_fold]; simp

theorem run_conv (wx : World) (a : Option Addr) (l c : Nat) (xs : List Int) (hx : xs.length = l)
    (h : 0 < l → ∃ b off, a = some ⟨b, off, none⟩ ∧ ∀ i, i < l → wx.cell? ⟨b, off + i, none⟩ = some (.int .u8 (xs.getD i 0))) :
    (convert 100 9 (.slice a l c)).run Try.prog wx = .ok (.string (str xs)) wx := by
  rw [run_convert_bytes_string wx 100 9 5 a l c Try.underlying100 Try.underlying5 Try.underlying9]
  subst hx
  cases a with
  | none =>
    have h0 : xs = [] := by
      cases xs with
      | nil => rfl
      | cons x xs => obtain ⟨b, off, hb, _⟩ := h (by simp); cases hb
    subst h0
    rfl
  | some ad =>
    refine run_bytesToString wx ad xs.length c xs ?_
    have := run_loadCells_list (P := Try.prog) wx ad (xs.map (Value.int .u8)) ?_
    · simpa using this
    · intro j v hj
      have hlt : j < xs.length := by have := (List.getElem?_eq_some_iff.1 hj).1; simpa using this
      obtain ⟨b, off, hb, hc⟩ := h (by omega)
      obtain rfl := Option.some.inj hb
      rw [Addr.add_lit, hc j hlt, ← hj]
      simp [hlt]

theorem ba_app (a b : ByteArray) : (a ++ b).data.toList = a.data.toList ++ b.data.toList := by simp [ByteArray.data_append]

theorem ba_size (s : ByteArray) : s.size = s.data.toList.length := by rw [Array.length_toList]; rfl

/-- Bytes as they lie. -/
structure InB (w : World) (ao : Option Addr) (k c : Nat) (xs : List Int) : Prop where
  len : xs.length = k
  cap : k ≤ c
  nul : ao = none → k = 0 ∧ c = 0
  cell : 0 < k → ∃ b off, ao = some ⟨b, off, none⟩ ∧ ∀ i, i < k → w.cell? ⟨b, off + i, none⟩ = some (.int .u8 (xs.getD i 0))

theorem InB.on {w w' : World} {ao : Option Addr} {k c : Nat} {xs : List Int} (hb : Below w.heap.size w w') (h : InB w ao k c xs) : InB w' ao k c xs :=
  ⟨h.len, h.cap, h.nul, fun h0 => by
    obtain ⟨b, off, ha, hc⟩ := h.cell h0
    exact ⟨b, off, ha, fun i hi => cell_on hb (hc i hi)⟩⟩

theorem InB.nil (w : World) : InB w none 0 0 [] := ⟨rfl, Nat.le_refl _, fun _ => ⟨rfl, rfl⟩, fun h => absurd h (by omega)⟩

theorem InB.cells {w : World} {ad : Addr} {m c : Nat} {ys : List Int} (h : InB w (some ad) m c ys) : ∀ j u, (ys.map (Value.int .u8))[j]? = some u → w.cell? (ad.add j) = some u := by
  intro j u hu
  have hl := h.len
  have hj : j < m := by have := (List.getElem?_eq_some_iff.1 hu).1; simp at this; omega
  obtain ⟨b, off, hab, hcell⟩ := h.cell (by omega)
  obtain rfl := Option.some.inj hab
  rw [Addr.add_lit, hcell j hj, ← hu]
  simp [hl, hj]

theorem infoByte : (Try.prog.info? 5).map (fun i => (i.zero, i.size, i.bytes)) = some (some (.int .u8 0), 1, 1) := by kernel_rfl

theorem append_lies {ops : Array Oper} {rest : List Oper} {o : Oper} {a : Act} {Q : Exit → Act → World → Prop} {w : World} (hgd : o.guard = none) (s x : Operand)
    (ho : o.op = .call { callee := .builtin .append, args := #[s, x], argTypes := #[100, 100] })
    (base : Nat) (v : Value) (n : Nat) (xs : List Int) (hs : a.eval s = v) (hown : w.ownsRow base 5 1 v n (xs.map (Value.int .u8)))
    (ao : Option Addr) (m c : Nat) (ys : List Int) (hx : a.eval x = .slice ao m c) (hin : InB w ao m c ys)
    (hbytes : n + m ≤ 1000) (hbase : base ≤ w.heap.size) (hpos : 0 < n + m)
    (h : ∀ ao' cap w', InB w' ao' (n + m) cap (xs ++ ys) → Below base w w' → wpList Try.prog ops Q rest (a.put o.dst (.slice ao' (n + m) cap)) w') : wpList Try.prog ops Q (o :: rest) a w := by
  obtain ⟨i0, hi, hz0, hz1, hz2⟩ := info_parts infoByte
  have key : ∀ v' w', w'.ownsRow base 5 1 v' (n + m) ((xs ++ ys).map (Value.int .u8)) → w.grownBy w' v.ownBlock → wpList Try.prog ops Q rest (a.put o.dst v') w' := fun v' w' h1 h2 => by
    have hh := h1
    rcases h1.2 with ⟨rfl, e⟩ | ⟨g, cap, cur, rfl, hb, hg, hnc, hm, hsz, ht⟩
    · omega
    · have hl := h1.1
      simp only [List.length_map, Nat.mul_one] at hl
      refine h (some ⟨g, 0, none⟩) cap w' ⟨hl, hnc, (fun e => by cases e), fun _ => ⟨g, 0, rfl, fun i hi => ?_⟩⟩ ((Below.refl base w).grown h2 hbase (fun k hk => (hown.lt k hk).1))
      have := hh.cellAt (g := g) i (by omega)
      rw [Nat.zero_add, this]
      have hi' : i < (xs ++ ys).length := by omega
      rw [List.getElem?_map, List.getElem?_eq_getElem hi', List.getD, List.getElem?_eq_getElem hi']
      rfl
  cases ao with
  | some ad =>
    refine wpList_append_own w hgd s x 100 ho base 5 i0 (.int .u8 0) 1 1 Try.underlying100 hi hz0 hz1 hz2 rfl (by decide) v n _ hs hown ad m c (ys.map (Value.int .u8)) hx (by simp [hin.len]) (InB.cells hin) (ints_oneCell _ _) (by unfold maxLen; omega) (by omega) hbase ?_
    intro v' w' h1 h2 _
    exact key v' w' (by rw [List.map_append]; exact h1) h2
  | none =>
    obtain ⟨rfl, rfl⟩ := hin.nul rfl
    have hy : ys = [] := List.eq_nil_of_length_eq_zero hin.len
    subst hy
    exact wpList_append_own_none hgd s x 100 ho base 5 i0 1 Try.underlying100 hi v n _ hs hown hx (key v w (by simpa using hown) (World.grownBy.refl _ _))

theorem own_one (w : World) (d : Int) : (w.alloc (.cells #[.int .u8 d] 5)).ownsRow w.heap.size 5 1 (.slice (some ⟨w.heap.size, 0, none⟩) 1 1) 1 (([d] : List Int).map (Value.int .u8)) :=
  ⟨rfl, .inr ⟨w.heap.size, 1, #[.int .u8 d], rfl, Nat.le_refl _, heap_alloc_new w _, Nat.le_refl _, by decide, rfl, rfl⟩⟩

theorem InB.conv {wx : World} {ao : Option Addr} {k c : Nat} {xs : List Int} (h : InB wx ao k c xs) : (convert 100 9 (.slice ao k c)).run Try.prog wx = .ok (.string (str xs)) wx :=
  run_conv wx ao k c xs h.len h.cell

def byt (xs : List Int) : List UInt8 := xs.map fun n => UInt8.ofNat n.toNat

def digitsS (u : Nat) : ByteArray := ⟨(Lib.decDigits u).toArray⟩

theorem digitsS_list (u : Nat) : (digitsS u).data.toList = Lib.decDigits u := by simp [digitsS]

theorem digs_step {u0 U : Nat} {xs : List Int} (h : Lib.decDigits u0 = Lib.decDigits U ++ byt xs) (hU : 9 < U) : Lib.decDigits u0 = Lib.decDigits (U / 10) ++ byt ((48 + (U : Int) % 10) :: xs) := by
  rw [h, dec_big (by omega), List.append_assoc]
  have e : (48 + (U : Int) % 10).toNat = 48 + U % 10 := by omega
  simp [byt, e]

theorem digs_last {u0 U : Nat} {xs : List Int} (h : Lib.decDigits u0 = Lib.decDigits U ++ byt xs) (hU : ¬ 9 < U) : str ((48 + (U : Int)) :: xs) = digitsS u0 := by
  apply ba_ext
  rw [str_list, digitsS_list, h, Lib.decDigits_one (by omega)]
  have e : (48 + (U : Int)).toNat = 48 + U := by omega
  simp [byt, e]

theorem digs_len {u0 U : Nat} {xs : List Int} (h : Lib.decDigits u0 = Lib.decDigits U ++ byt xs) (h0 : u0 < 18446744073709551616) : xs.length ≤ 20 := by
  have e := congrArg List.length h
  rw [Lib.decDigits_length, List.length_append] at e
  have := Lib.nDigits_le20 u0 h0
  simp [byt] at e
  omega

set_option maxHeartbeats 2000000 in
theorem digits_any (u0 : Nat) (w : World) (h0 : u0 ≤ 9223372036854775808) : Calls Try.prog 41 #[.int .u64 u0] w fun e w' => e = .returned (.string (digitsS u0)) ∧ Below w.heap.size w w' := by
  have H0 := hid (show u0 < 18446744073709551616 by omega)
  obtain ⟨a0, ha0⟩ : ∃ a : Int, a = (u0 : Int) := ⟨_, rfl⟩
  rw [← ha0]
  have HA := hid ha0
  clear ha0 h0
  go_enter Try.func41, Try.ntmps41
  go_wp2_with fail
  go_loopg [0, 3] u0 (fun g x y wr => ∃ (U k c : Nat) (a : Int) (ao : Option Addr) (xs : List Int), g = U ∧ x = .int .u64 a ∧ Hid (a = (U : Int)) ∧ 0 ≤ a ∧ a ≤ 18446744073709551615 ∧ y = .slice ao k c ∧ InB wr ao k c xs ∧ Hid (Lib.decDigits u0 = Lib.decDigits U ++ byt xs) ∧ Below w.heap.size w wr)
  case atStart => exact ⟨u0, 0, 0, a0, none, [], rfl, rfl, HA, by have := HA.out; omega, by have := HA.out; have := H0.out; omega, rfl, InB.nil _, hid (by simp [byt]), Below.refl _ _⟩
  case round =>
    obtain ⟨U, k, c, a, ao, xs, hg, rfl, EA, b0, b1, rfl, hin, EQ, hb⟩ := hrel
    have HIN := hid hin
    have HB := hid hb
    have z := hb.size
    have hk : k ≤ 20 := by rw [← hin.len]; exact digs_len EQ.out H0.out
    clear hin hb
    by_cases h9 : 9 < a
    · have t1 : decide (9 < a) = true := by simpa using h9
      have HN := hid (digs_step EQ.out (by have := EA.out; omega))
      have HE := hid (show a / 10 = ((U / 10 : Nat) : Int) by have := EA.out; omega)
      have HD := hid (show (48 + (U : Int) % 10) = 48 + a % 10 by have := EA.out; omega)
      have d0 : 0 ≤ a % 10 := by omega
      have d1 : a % 10 ≤ 9 := by omega
      have hu : U ≠ 0 := by have := EA.out; omega
      have ha3 : 0 ≤ a / 10 := by omega
      have ha4 : a / 10 ≤ 18446744073709551615 := by omega
      go_wp2_with (at_builtin; refine append_lies rfl (.tmp 10) (.tmp 11) rfl wr.heap.size _ 1 [48 + a % 10] rfl (by exact own_one wr _) ao k c xs rfl (by exact HIN.out.on (new (same wr) _)) (by omega) (by simp) (by omega) ?_; intro ao' cap w1 hin1 hb1)
      have H1 := hid hin1
      have HB1 := hid (show Below w.heap.size w w1 from (HB.out.alloc z _).trans (hb1.mono z))
      clear hin1 hb1
      go_roundg (U / 10)
      case measure => omega
      case rel => exact ⟨U / 10, _, _, a / 10, ao', _, rfl, rfl, HE, ha3, ha4, rfl, H1.out, hid (by rw [HN.out, HD.out]; rfl), HB1.out⟩
    · have t1 : decide (9 < a) = false := by simpa using h9
      have HL := hid (digs_last EQ.out (by have := EA.out; omega))
      have HD := hid (show (48 + (U : Int)) = 48 + a by have := EA.out; omega)
      have ha5 : a ≤ 9 := by omega
      go_wp2_with (at_builtin; refine append_lies rfl (.tmp 18) (.tmp 19) rfl wr.heap.size _ 1 [48 + a] rfl (by exact own_one wr _) ao k c xs rfl (by exact HIN.out.on (new (same wr) _)) (by omega) (by simp) (by omega) ?_; intro ao' cap w1 hin1 hb1; have hcv := hin1.conv; have HB1 := hid (show Below w.heap.size w w1 from (HB.out.alloc z _).trans (hb1.mono z)); clear hin1 hb1)
      go_ret
      exact ⟨by rw [← HL.out, HD.out]; rfl, HB1.out⟩

theorem show_nonneg (u : Nat) : digitsS u = shown (u : Int) := by
  apply ba_ext
  rw [digitsS_list, shown_list, Lib.itoa_nonneg]

theorem show_minus (u : Nat) (h : 1 ≤ u) : (ByteArray.mk #[45]) ++ digitsS u = shown (-(u : Int)) := by
  apply ba_ext
  rw [ba_app, digitsS_list, shown_list, Lib.itoa_neg u h]
  rfl

theorem digitsS_size {u : Nat} (h : u < 18446744073709551616) : (digitsS u).size ≤ 20 := by
  rw [ba_size, digitsS_list, Lib.decDigits_length]; exact Lib.nDigits_le20 u h

set_option maxHeartbeats 2000000 in
theorem rshow_any (n : Int) (w : World) (hn : W64 n) : Calls Try.prog 14 #[.int .i64 n] w fun e w' => e = .returned (.string (shown n)) ∧ Below w.heap.size w w' := by
  obtain ⟨h0, h1⟩ := hn
  by_cases hp : 0 ≤ n
  · obtain ⟨u, hu⟩ : ∃ u : Nat, n = u := ⟨n.toNat, by omega⟩
    have t1 : decide (0 ≤ n) = true := by simpa using hp
    have HU := hid hu
    have c1 : Hid (∀ w1, Calls Try.prog 41 #[.int .u64 n] w1 fun e w' => e = .returned (.string (shown n)) ∧ Below w1.heap.size w1 w') := by
      intro w1
      rw [hu, ← show_nonneg]
      exact digits_any u w1 (by omega)
    clear hu
    go_enter Try.func14, Try.ntmps14
    go_wp2_with (go_at_call 41; refine (c1.out _).mono ?_; rintro e w' ⟨rfl, hb⟩; have HB := hid hb; clear hb)
    go_ret
    exact ⟨rfl, HB.out⟩
  · obtain ⟨u, hu⟩ : ∃ u : Nat, n = -(u : Int) := ⟨n.natAbs, by omega⟩
    have hu1 : 1 ≤ u := by omega
    have hu2 : u ≤ 9223372036854775808 := by omega
    have t1 : decide (0 ≤ n) = false := by simpa using hp
    obtain ⟨d, hd⟩ : ∃ d, digitsS u = d := ⟨_, rfl⟩
    have hds : d.size ≤ 20 := by rw [← hd]; exact digitsS_size (by omega)
    have HS := hid (show (ByteArray.mk #[45]) ++ d = shown n by rw [← hd, hu]; exact show_minus u hu1)
    have c1 : Hid (∀ w1 (m : Int), m = -n → Calls Try.prog 41 #[.int .u64 m] w1 fun e w' => e = .returned (.string d) ∧ Below w1.heap.size w1 w') := by
      intro w1 m e
      rw [e, hu, Int.neg_neg, ← hd]
      exact digits_any u w1 hu2
    have hn1 : n < 0 := by omega
    have hn2 : 0 ≤ -1 - n := by omega
    have hn3 : -1 - n ≤ 9223372036854775807 := by omega
    clear hu hd hp hu1 hu2
    go_enter Try.func14, Try.ntmps14
    go_wp2_with (go_at_call 41; refine (c1.out _ _ ?_).mono ?_; rotate_left; rintro e w' ⟨rfl, hb⟩; have HB := hid hb; clear hb)
    · go_ret
      exact ⟨by rw [← HS.out]; rfl, HB.out⟩
    · omega

end Go.Proofs.Ytnodofbpogcheaa.Lx

/-
  The low bits of a number.
-/
namespace Go.Proofs.Ytnodofbpogcheaa.Low
open Go.RowKit View Rd Num

set_option linter.unusedVariables false

theorem wrap_toInt (x : BitVec 64) : IntKind.i64.wrap (x.toNat : Int) = x.toInt := by
  rw [IntKind.wrap_i64, BitVec.toInt_eq_toNat_cond]
  have := x.isLt
  split <;> omega

theorem toNat_of (n : Int) : ((BitVec.ofInt 64 n).toNat : Int) = n % 18446744073709551616 := by
  rw [BitVec.toNat_ofInt]
  omega

theorem low8 (n : Int) : bits .and .i64 n 255 = n % 256 := by
  have hb : bits .and .i64 n 255 = (BitVec.ofInt 64 n &&& BitVec.ofInt 64 255).toInt := wrap_toInt _
  rw [hb, ← wrap_toInt, IntKind.wrap_i64, BitVec.toNat_and]
  have e : (BitVec.ofInt 64 255).toNat = 2 ^ 8 - 1 := rfl
  have t := toNat_of n
  rw [e, Nat.and_two_pow_sub_one_eq_mod]
  omega

end Go.Proofs.Ytnodofbpogcheaa.Low

/-
  WfLimits, walked: what its cases share.
-/
namespace Go.Proofs.Ytnodofbpogcheaa.Wf
open Go.RowKit View Rd Num Copy Go.Proofs.Ytnodofbpogcheaa.Mod Go.Proofs.Ytnodofbpogcheaa.Wl Go.Proofs.Ytnodofbpogcheaa.Chk Go.Proofs.Ytnodofbpogcheaa.Flo

set_option linter.unusedVariables false

/-- What wf.Check answers. -/
def ChkC : Prop := ∀ (M : MV) (w : World), InM w M → SmallM M → (∀ i, i < M.fns.n → Jng (M.F i)) → Calls Try.prog 15 #[M.val] w fun e w' => ErrX (errM M) w e w'

theorem nm_show (c : UInt8) (k : Nat) : (⟨#[c]⟩ : ByteArray) ++ Lx.shown (k : Int) = nm c k := by
  apply Lx.ba_ext
  rw [Lx.ba_app, Lx.shown_list]
  simp [nm]

theorem infoF : (Try.prog.info? 33).map (fun i => (i.zero, i.size, i.bytes)) = some (some (.agg #[.string ByteArray.empty, .bool false, .slice none 0 0, .int .i64 0, .slice none 0 0]), 5, 80) := by kernel_rfl
theorem underF : Try.prog.underlying 25 = some (.slice 33) := by kernel_rfl

abbrev csR (b : Nat) (i : Nat) (_ : Unit) : List Value := [.string (nm 102 i), .bool false, .slice none 0 0, .int .i64 0, .slice (some ⟨b, 0, none⟩) 1 1]
abbrev noEl (_ : Nat) (_ : World) (_ : Nat) (_ : Unit) : Prop := True
abbrev noFp (_ : Unit) (_ : Nat) : Prop := False

theorem stabN (X : Nat) : Stable (noEl X) noFp := fun _ _ _ _ _ _ _ => trivial

/-- The body of one ret lies behind the variable. -/
def BodyAt (w : World) (V : Nat) : Prop := Sls w ⟨some ⟨V + 1 + 1, 0, none⟩, 1, 1⟩ (fun _ => ⟨some ⟨V + 1, 0, none⟩, 1, 1⟩) ∧ Inss w ⟨some ⟨V + 1, 0, none⟩, 1, 1⟩ (fun _ => retI)

theorem bodyAt_new (w : World) : BodyAt (((w.alloc (.cells #[.slice none 0 0, .slice none 0 0, .slice none 0 0, .slice none 0 0] 27)).alloc (.cells #[.int .i64 29, .int .i64 0, .int .i64 0, .int .i64 0, .int .i64 0, .slice none 0 0, .slice none 0 0] 39)).alloc (.cells #[.slice (some ⟨w.heap.size + 1, 0, none⟩) 1 1] 37)) w.heap.size :=
  ⟨lit_blk _ ⟨some ⟨w.heap.size + 1, 0, none⟩, 1, 1⟩ _ (by simp), (lit_ins _ retI _ (by simp)).on (new (same _) _)⟩

/-- Functions of one ret, with names of their own. -/
abbrev rF0 (V i : Nat) : FV := blkF (nm 102 i) no0 ⟨some ⟨V + 1 + 1, 0, none⟩, 1, 1⟩ (fun _ => ⟨some ⟨V + 1, 0, none⟩, 1, 1⟩) (fun _ _ => retI) (fun _ _ _ => 0)

theorem BodyAt.on {w w' : World} {V : Nat} (hb : Below w.heap.size w w') (h : BodyAt w V) : BodyAt w' V := ⟨h.1.on hb, h.2.on hb⟩

theorem BodyAt.blk2 {α : Type} {w w1 wr : World} {V T z k f : Nat} {cs : Nat → α → List Value} {El : Nat → World → Nat → α → Prop} {Fp : α → Nat → Prop} {v : Value} {t : Nat → α} (h : BodyAt w V) (hst : GSt w1 w V T z k f cs El Fp wr v t) : BodyAt wr V := by
  have l1 : V + 1 < w.heap.size := by obtain ⟨b, off, e, hc⟩ := h.2.2.2.2 Nat.one_pos; simp only [Option.some.injEq, Addr.mk.injEq] at e; obtain ⟨rfl, rfl, _⟩ := e; exact World.block_lt_of_cell? _ _ (hc 0 Nat.one_pos).c0
  have l2 : V + 2 < w.heap.size := by obtain ⟨b, off, e, hc⟩ := h.1.2.2.2 Nat.one_pos; simp only [Option.some.injEq, Addr.mk.injEq] at e; obtain ⟨rfl, rfl, _⟩ := e; exact World.block_lt_of_cell? _ _ (hc 0 Nat.one_pos)
  obtain ⟨⟨a1, a2, a3, a4⟩, b1, b2, b3, b4⟩ := h
  have e1 := hst.kp (V + 1) (by omega) l1
  have e2 := hst.kp (V + 2) (by omega) l2
  refine ⟨⟨a1, a2, a3, fun h0 => ?_⟩, b1, b2, b3, fun h0 => ?_⟩
  · obtain ⟨b, off, e, hc⟩ := a4 h0
    refine ⟨b, off, e, fun i hi => ?_⟩
    have := hc i hi
    simp only [Option.some.injEq, Addr.mk.injEq] at e
    obtain ⟨rfl, rfl, _⟩ := e
    rw [World.cell?_of_block (w := w) e2]
    exact this
  · obtain ⟨b, off, e, hc⟩ := b4 h0
    refine ⟨b, off, e, fun i hi => ?_⟩
    have := hc i hi
    simp only [Option.some.injEq, Addr.mk.injEq] at e
    obtain ⟨rfl, rfl, _⟩ := e
    exact ⟨by rw [World.cell?_of_block (w := w) e1]; exact this.c0, by rw [World.cell?_of_block (w := w) e1]; exact this.c1, by rw [World.cell?_of_block (w := w) e1]; exact this.c2, by rw [World.cell?_of_block (w := w) e1]; exact this.c3, by rw [World.cell?_of_block (w := w) e1]; exact this.c4, by rw [World.cell?_of_block (w := w) e1]; exact this.c5, by rw [World.cell?_of_block (w := w) e1]; exact this.c6⟩

theorem in_ret {w : World} {V : Nat} (h : BodyAt w V) (nm : ByteArray) (p : Sl) (hp : Ints w p (fun _ => 1)) : In w (blkF nm p ⟨some ⟨V + 1 + 1, 0, none⟩, 1, 1⟩ (fun _ => ⟨some ⟨V + 1, 0, none⟩, 1, 1⟩) (fun _ _ => retI) (fun _ _ _ => 0)) :=
  ⟨hp, h.1, fun j hj => h.2, fun j hj k hk => litN _ _, fun j hj k hk => litN _ _⟩

/-- What wf.Check answers at a module: that number, and what lay there lies there. -/
def Chks (m : Value) (x : Int) (w : World) : Prop := ∀ wx, Below w.heap.size w wx → Calls Try.prog 15 #[m] wx fun e w' => e = .returned (.int .i64 x) ∧ Below wx.heap.size wx w'

theorem chks_of (hck : ChkC) {M : MV} {w : World} {x : Int} (hM : InM w M) (hs : SmallM M) (hj : ∀ i, i < M.fns.n → Jng (M.F i)) (hx : errM M = x) : Chks M.val x w := fun wx hb =>
  (hck M wx (hM.on hb) hs hj).mono fun e w' ⟨r, h1, h2, h3⟩ => ⟨by rw [h1, h2, hx], h3⟩

theorem res_fun (hck : ChkC) {w : World} {vs : Sl} {V n : Nat} (hr : Row 5 FAt w vs (rF0 V)) (hn : vs.n = n) (hbd : BodyAt w V) (hm : n ≤ 25) : Chks (.agg #[.slice none 0 0, .slice none 0 0, .slice none 0 0, .slice vs.a vs.n vs.c]) (if n ≤ 24 then 0 else 2) w := by
  refine chks_of hck (M := funM vs (rF0 V)) (inM_fun hr (fun i hi => in_ret hbd _ _ (litN _ _))) (small_fun _ _ (by omega) (fun i hi => ret_light _ _ _ _ (by have := nm_size (c := 102) (i := i) (by omega); omega) (Nat.zero_le _)) ?_) (fun i hi => jng_ret _ _ _ _) ?_
  · have := cnt_le (n := fun k => fsize (rF0 V k)) (m := 1) (j := vs.n) (fun i hi => Nat.le_refl 1)
    omega
  · by_cases h : n ≤ 24
    · rw [if_pos h]
      exact err_ok (fit_fun vs (rF0 V) (by omega) (fun i hi => ret_lim _ _ _ _ (Nat.zero_le _)) (fun i hi => ret_ok _ _ _ _) (good_nm okD_f inD_f vs.n (by omega)))
    · rw [if_neg h]
      exact err_lim (fun hl => by have : vs.n ≤ 24 := hl.fns; omega)

end Go.Proofs.Ytnodofbpogcheaa.Wf
