/-
  Slices of things, rows that grow by append: what holds of any of them.
-/
import Derived.Test.YtlakhndnoaoheaaDoorProg
import Derived.WalkKit
import Derived.ProofKit
import Derived.WalkSpells
import Derived.Deep.Light
import Derived.WalkSmall
import Derived.Maps.AppendAt
import Derived.Laws.AppendOwnNone
import Derived.Deep.LoopGhost
import Derived.Test.YtlakhndnoaoheaaDoorLxP
namespace Go.Proofs.YtlakhndnoaoheaaDoor.Lx
open Go.RowKit

set_option linter.unusedVariables false

theorem hid {p : Prop} (h : p) : Hid p := h

/-- A slice: where, how long, what room. -/
structure Sl where
  a : Option Addr
  n : Nat
  c : Nat

abbrev slv (s : Sl) : Value := .slice s.a s.n s.c

theorem cell_on {w w' : World} {a : Addr} {v : Value} (hb : Below w.heap.size w w') (h : w.cell? a = some v) : w'.cell? a = some v := by
  rw [hb.cell (World.block_lt_of_cell? w a h)]; exact h

/-- An index into a slice whose address the walk does not see. -/
theorem index_row {s : Sl} {b off : Nat} (ha : s.a = some ⟨b, off, none⟩) {T e z : Nat} (hT : Tryd.prog.underlying T = some (.slice e)) (hz : (Tryd.prog.info? e).map (fun i => i.size) = some z) {k : Nat} (hk : k < s.n) :
    ∀ wx, (Instr.indexAt T (.slice s.a s.n s.c) (.int .i64 k)).run Tryd.prog wx = .ok (.pointer (some ⟨b, off + k * z, none⟩)) wx := by
  intro wx
  have he : Tryd.prog.elem T = e := by unfold Program.elem; rw [hT]
  obtain ⟨i, hi, hi'⟩ := Option.map_eq_some_iff.1 hz
  rw [ha, run_indexAt_slice _ _ _ _ _ _ _ (by rw [he]; exact hT), if_pos ⟨by omega, by omega⟩, he]
  simp [sizeOf, typeInfo, hi, hi', Addr.add_lit]

/-- One world behind the other. -/
theorem more {w a b : World} (h : Below w.heap.size w a) (k : Below a.heap.size a b) : Below w.heap.size w b := h.trans (k.mono h.size)

theorem new {w a : World} (h : Below w.heap.size w a) (o : Obj) : Below w.heap.size w (a.alloc o) := h.alloc h.size o

theorem same (w : World) : Below w.heap.size w w := Below.refl _ _

theorem ne_off {b o o' : Nat} (h : o ≠ o') : (⟨b, o, none⟩ : Addr) ≠ ⟨b, o', none⟩ := fun e => h (congrArg Addr.off e)

theorem cell_other {w : World} {a b : Addr} {v u : Value} (h : a ≠ b) (hc : w.cell? b = some u) : (w.setCell a v).cell? b = some u := by
  rw [World.cell?_setCell_other (h := h)]; exact hc

theorem cell_same {w : World} {a : Addr} {v u : Value} (hc : w.cell? a = some u) : (w.setCell a v).cell? a = some v := by
  rw [World.cell?_setCell_same (h := hc)]

theorem results_cell {fn : Func} {p : Tmp} {ty : TypeId} (h : fn.results = #[.cell p ty]) (tmps : Array Value) (P : Program) (w : World) :
    (results fn tmps).run P w = ((asAddr (tmps.getD p undef)).run P w).andThen fun a w₁ => (loadVar ty a).run P w₁ := by
  simp only [results, h]
  simp [Sem.run_bind, Result.andThen]

/-- A row of things of z cells each. -/
def Row {α : Type} (z : Nat) (p : World → Nat → Nat → α → Prop) (w : World) (s : Sl) (f : Nat → α) : Prop :=
  s.n ≤ s.c ∧ s.n ≤ 140737488355328 ∧ (s.a = none → s.c = 0) ∧ (0 < s.n → ∃ b off, s.a = some ⟨b, off, none⟩ ∧ ∀ i, i < s.n → p w b (off + i * z) (f i))

theorem Row.on {α : Type} {z : Nat} {p : World → Nat → Nat → α → Prop} {w w' : World} {s : Sl} {f : Nat → α} (hp : ∀ b o v, p w b o v → p w' b o v) (h : Row z p w s f) : Row z p w' s f :=
  ⟨h.1, h.2.1, h.2.2.1, fun h0 => by
    obtain ⟨b, off, ha, hc⟩ := h.2.2.2 h0
    exact ⟨b, off, ha, fun i hi => hp _ _ _ (hc i hi)⟩⟩

theorem Row.at {α : Type} {z : Nat} {p : World → Nat → Nat → α → Prop} {w : World} {s : Sl} {f : Nat → α} (h : Row z p w s f) {T e : Nat} (hT : Tryd.prog.underlying T = some (.slice e)) (hz : (Tryd.prog.info? e).map (fun i => i.size) = some z) {k : Nat} (hk : k < s.n) :
    ∃ b o, (∀ wx, (Instr.indexAt T (.slice s.a s.n s.c) (.int .i64 k)).run Tryd.prog wx = .ok (.pointer (some ⟨b, o, none⟩)) wx) ∧ p w b o (f k) := by
  obtain ⟨b, off, ha, hc⟩ := h.2.2.2 (by omega)
  exact ⟨b, off + k * z, index_row ha hT hz hk, hc k hk⟩

theorem cells_new (w : World) (cs : Array Value) (t : TypeId) : ∀ j u, cs.toList[j]? = some u → (w.alloc (.cells cs t)).cell? ((⟨w.heap.size, 0, none⟩ : Addr).add j) = some u := by
  intro j u h
  have e : (⟨w.heap.size, 0, none⟩ : Addr).add j = ⟨w.heap.size, j, none⟩ := by simp [Addr.add_lit]
  rw [e]
  simpa using h

/-- Rows of cells, one behind the other. -/
def fl (c : Nat → List Value) : Nat → List Value
  | 0 => []
  | k + 1 => fl c k ++ c k

theorem fl_length {c : Nat → List Value} {z : Nat} (h : ∀ i, (c i).length = z) : ∀ k, (fl c k).length = k * z
  | 0 => by simp [fl]
  | k + 1 => by rw [fl, List.length_append, fl_length h k, h, Nat.succ_mul]

theorem fl_congr {c d : Nat → List Value} : ∀ {k : Nat}, (∀ t, t < k → c t = d t) → fl c k = fl d k
  | 0, _ => rfl
  | k + 1, h => by rw [fl, fl, fl_congr (fun t ht => h t (by omega)), h k (by omega)]

theorem fl_at {c : Nat → List Value} {z : Nat} (h : ∀ i, (c i).length = z) : ∀ k t r, t < k → r < z → (fl c k)[t * z + r]? = (c t)[r]?
  | 0, t, r, ht, _ => by omega
  | k + 1, t, r, ht, hr => by
    rw [fl]
    rcases Nat.lt_or_eq_of_le (Nat.le_of_lt_succ ht) with h' | rfl
    · rw [List.getElem?_append_left (by rw [fl_length h]; have := Nat.mul_le_mul_right z (show t + 1 ≤ k from h'); rw [Nat.succ_mul] at this; omega)]
      exact fl_at h k t r h' hr
    · rw [List.getElem?_append_right (by rw [fl_length h]; omega), fl_length h]
      congr 1
      omega

/-- k things were copied into the row v; each holds (El), its blocks (Fp) are none of the row's. -/
structure Grow {α : Type} (X0 T z k : Nat) (w : World) (v : Value) (cs : Nat → α → List Value) (El : World → Nat → α → Prop) (Fp : α → Nat → Prop) (t : Nat → α) : Prop where
  own : w.ownsRow X0 T z v k (fl (fun i => cs i (t i)) k)
  el : ∀ i, i < k → El w i (t i)
  fp : ∀ i, i < k → ∀ b, Fp (t i) b → X0 ≤ b ∧ b < w.heap.size ∧ some b ≠ v.ownBlock
  dis : ∀ i j, i < k → j < k → i ≠ j → ∀ b, Fp (t i) b → ¬ Fp (t j) b

def Stable {α : Type} (El : World → Nat → α → Prop) (Fp : α → Nat → Prop) : Prop :=
  ∀ (w w' : World) (i : Nat) (a : α), El w i a → w.heap.size ≤ w'.heap.size → (∀ b, Fp a b → b < w.heap.size → w'.heap[b]? = w.heap[b]?) → El w' i a

theorem Grow.keep {α : Type} {X0 T z k : Nat} {w w' : World} {v : Value} {cs : Nat → α → List Value} {El : World → Nat → α → Prop} {Fp : α → Nat → Prop} {t : Nat → α} (st : Stable El Fp) (h : Grow X0 T z k w v cs El Fp t) (hz : w.heap.size ≤ w'.heap.size)
    (hb : ∀ b, X0 ≤ b → b < w.heap.size → w'.heap[b]? = w.heap[b]?) : Grow X0 T z k w' v cs El Fp t := by
  refine ⟨⟨h.own.1, ?_⟩, fun i hi => st w w' i _ (h.el i hi) hz (fun b hf hlt => hb b (h.fp i hi b hf).1 hlt), fun i hi b hf => ⟨(h.fp i hi b hf).1, Nat.lt_of_lt_of_le (h.fp i hi b hf).2.1 hz, (h.fp i hi b hf).2.2⟩, h.dis⟩
  rcases h.own.2 with q | ⟨g, cap, cur, h1, h2, h3, h4⟩
  · exact .inl q
  · exact .inr ⟨g, cap, cur, h1, h2, by rw [hb g h2 (Array.getElem?_eq_some_iff.1 h3).1]; exact h3, h4⟩

theorem Grow.step {α : Type} {X0 T z k : Nat} {w w2 w4 : World} {v v' : Value} {cs : Nat → α → List Value} {El : World → Nat → α → Prop} {Fp : α → Nat → Prop} {t : Nat → α} (st : Stable El Fp) (h : Grow X0 T z k w v cs El Fp t) (h0 : X0 ≤ w.heap.size) {a : α} {o : Obj} (hb2 : Below w.heap.size w w2) (ha : El w2 k a)
    (hf : ∀ b, Fp a b → w.heap.size ≤ b ∧ b < w2.heap.size) (own4 : w4.ownsRow X0 T z v' (k + 1) (fl (fun i => cs i (t i)) k ++ cs k a)) (gr : (w2.alloc o).grownBy w4 v.ownBlock) (hat : v'.ownBlock = v.ownBlock ∨ v'.ownBlock = some (w2.heap.size + 1)) :
    ∃ t, Grow X0 T z (k + 1) w4 v' cs El Fp t := by
  have z2 := hb2.size
  have z4 := gr.size
  simp only [World.size_alloc] at z4
  have vl := h.own.lt
  have nv : ∀ b, b < w2.heap.size → some b ≠ v.ownBlock → some b ≠ v'.ownBlock := fun b hb hne e => by
    rcases hat with h' | h'
    · rw [h'] at e; exact hne e
    · rw [h'] at e; have := Option.some.inj e; omega
  have kb : ∀ b, b < w2.heap.size → some b ≠ v.ownBlock → w4.heap[b]? = w2.heap[b]? := fun b hb hne => by rw [gr.block b (by simp; omega) hne, Below.heap_alloc _ _ _ hb]
  have newv : ∀ b, w.heap.size ≤ b → some b ≠ v.ownBlock := fun b hb e => by have := (vl b e.symm).2; omega
  refine ⟨fun i => if i < k then t i else a, ?_, fun i hi => ?_, fun i hi b hfb => ?_, fun i j hi hj hne b h1 h2 => ?_⟩
  · have e : fl (fun i => cs i (if i < k then t i else a)) (k + 1) = fl (fun i => cs i (t i)) k ++ cs k a := by
      rw [fl, fl_congr (d := fun i => cs i (t i)) (fun i hi => by simp [hi])]
      simp
    rw [e]; exact own4
  · rcases Nat.lt_or_eq_of_le (Nat.le_of_lt_succ hi) with h' | rfl
    · simp only [h', if_true]
      refine st w w4 i _ (h.el i h') (by omega) (fun b hfb hlt => ?_)
      rw [kb b (by omega) (h.fp i h' b hfb).2.2, hb2.block b hlt]
    · simp only [Nat.lt_irrefl, if_false]
      exact st w2 w4 i a ha (by omega) (fun b hfb hlt => kb b hlt (newv b (hf b hfb).1))
  · rcases Nat.lt_or_eq_of_le (Nat.le_of_lt_succ hi) with h' | rfl
    · simp only [h', if_true] at hfb
      obtain ⟨q1, q2, q3⟩ := h.fp i h' b hfb
      exact ⟨q1, by omega, nv b (by omega) q3⟩
    · simp only [Nat.lt_irrefl, if_false] at hfb
      obtain ⟨q1, q2⟩ := hf b hfb
      exact ⟨by omega, by omega, nv b q2 (newv b q1)⟩
  · by_cases ei : i < k
    · simp only [ei, if_true] at h1
      by_cases ej : j < k
      · simp only [ej, if_true] at h2
        exact h.dis i j ei ej hne b h1 h2
      · simp only [ej, if_false] at h2
        have := (h.fp i ei b h1).2.1
        have := (hf b h2).1
        omega
    · simp only [ei, if_false] at h1
      by_cases ej : j < k
      · simp only [ej, if_true] at h2
        have := (h.fp j ej b h2).2.1
        have := (hf b h1).1
        omega
      · omega

theorem app_gen {w2 : World} {X0 T sT z bytes k : Nat} {zero v : Value} {xs : List Value} (hT : Tryd.prog.underlying sT = some (.slice T)) (hI : (Tryd.prog.info? T).map (fun i => (i.zero, i.size, i.bytes)) = some (some zero, z, bytes)) (hzs : zero.cells.size = z) (hz : 0 < z) (hb : bytes ≤ 1000)
    (own : w2.ownsRow X0 T z v k xs) (hk : k ≤ 5000) (hbase : X0 ≤ w2.heap.size) (cs : Array Value) (hc : cs.toList.length = z) (h1 : ∀ u ∈ cs.toList, u.oneCell' = true) (ty : TypeId) :
    ∃ v' w4, (Builtin.append_ #[sT, sT] ty #[v, .slice (some ⟨w2.heap.size, 0, none⟩) 1 1]).run Tryd.prog (w2.alloc (.cells cs T)) = .ok v' w4 ∧ w4.ownsRow X0 T z v' (k + 1) (xs ++ cs.toList) ∧ (w2.alloc (.cells cs T)).grownBy w4 v.ownBlock ∧ (v'.ownBlock = v.ownBlock ∨ v'.ownBlock = some (w2.heap.size + 1)) := by
  obtain ⟨i0, hi, hz0, hz1, hz2⟩ := info_parts hI
  have hle : (k + 1) * bytes ≤ 5001 * 1000 := Nat.mul_le_mul (by omega) hb
  obtain ⟨v', w4, q1, q2, q3, _, q5⟩ := run_append_own_at (P := Tryd.prog) (w2.alloc (.cells cs T)) X0 sT ty T i0 zero z bytes hT hi hz0 hz1 hz2 hzs hz v k _ (own.alloc _) ⟨w2.heap.size, 0, none⟩ 1 1 cs.toList (by rw [hc, Nat.one_mul]) (cells_new _ _ _) h1 (by simp only [maxLen]; omega) (by omega) (by simp; omega)
  exact ⟨v', w4, q1, q2, q3, by simpa using q5⟩

theorem grow_row {α β : Type} {X0 T z n : Nat} {w : World} {s : Sl} {cs : Nat → α → List Value} {El : World → Nat → α → Prop} {Fp : α → Nat → Prop} {t : Nat → α} {p : World → Nat → Nat → β → Prop} {f : Nat → β} (h : Grow X0 T z n w (slv s) cs El Fp t) (hn : n ≤ 5000) (hz : ∀ i a, (cs i a).length = z)
    (hp : ∀ g i, i < n → (∀ r, r < z → w.cell? ⟨g, i * z + r, none⟩ = (cs i (t i))[r]?) → p w g (i * z) (f i)) : s.n = n ∧ Row z p w s f := by
  obtain ⟨sa, sn, sc⟩ := s
  rcases h.own.2 with ⟨e, rfl⟩ | ⟨g, cap, cur, e, hb, hg, hnc, hm, hs, ht⟩
  · simp [slv] at e
    obtain ⟨rfl, rfl, rfl⟩ := e
    exact ⟨rfl, Nat.le_refl _, Nat.zero_le _, fun _ => rfl, fun h => absurd h (by simp)⟩
  · simp [slv] at e
    obtain ⟨rfl, rfl, rfl⟩ := e
    refine ⟨rfl, hnc, by show sn ≤ _; omega, fun e => by simp at e, fun h0 => ⟨g, 0, rfl, fun i hi => ?_⟩⟩
    rw [Nat.zero_add]
    simp only at hi
    refine hp g i hi fun r hr => ?_
    have hlt : i * z + r < sn * z := by have := Nat.mul_le_mul_right z (show i + 1 ≤ sn from hi); rw [Nat.succ_mul] at this; omega
    rw [h.own.cellAt (i * z + r) hlt, fl_at (fun i => hz i _) sn i r hi hr]

end Go.Proofs.YtlakhndnoaoheaaDoor.Lx
