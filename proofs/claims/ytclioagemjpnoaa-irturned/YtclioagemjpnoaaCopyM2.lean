/-
  Copies of rows of a module's parts, in new memory: ir.copyEach at Extern, Global, Table, Func.
-/
import Derived.Test.YtclioagemjpnoaaCopyM
namespace Go.Proofs.Ytclioagemjpnoaa.CpM
open Go.RowKit View Rd Copy Srt Own Go.Proofs.Ytclioagemjpnoaa.Mod

set_option linter.unusedVariables false

/-- Rows of cells, one behind the other. -/
def fl (c : Nat → List Value) : Nat → List Value
  | 0 => []
  | k + 1 => fl c k ++ c k

theorem fl_length {c : Nat → List Value} {z : Nat} (h : ∀ i, (c i).length = z) : ∀ k, (fl c k).length = k * z
  | 0 => by simp [fl]
  | k + 1 => by rw [fl, List.length_append, fl_length h k, h, Nat.succ_mul]

theorem fl_congr {c d : Nat → List Value} : ∀ {k : Nat}, (∀ t, t < k → c t = d t) → fl c k = fl d k
  | 0, _ => rfl
  | k + 1, h => by rw [fl, fl, fl_congr (fun t ht => h t (by omega)), h k (by omega)]

theorem fl_at {c : Nat → List Value} {z : Nat} (h : ∀ i, (c i).length = z) : ∀ k t r, t < k → r < z → (fl c k)[t * z + r]? = (c t)[r]?
  | 0, t, r, ht, _ => by omega
  | k + 1, t, r, ht, hr => by
    rw [fl]
    rcases Nat.lt_or_eq_of_le (Nat.le_of_lt_succ ht) with h' | rfl
    · rw [List.getElem?_append_left (by rw [fl_length h]; have := Nat.mul_le_mul_right z (show t + 1 ≤ k from h'); rw [Nat.succ_mul] at this; omega)]
      exact fl_at h k t r h' hr
    · rw [List.getElem?_append_right (by rw [fl_length h]; omega), fl_length h]
      congr 1
      omega

/-- k of n things were copied into the row at G; each holds (El). -/
structure Each {α : Type} (G T z k n : Nat) (w : World) (cs : Nat → α → List Value) (El : World → Nat → α → Prop) (t : Nat → α) : Prop where
  own : w.ownsRow G T z (.slice (some ⟨G, 0, none⟩) k n) k (fl (fun i => cs i (t i)) k)
  el : ∀ i, i < k → El w i (t i)

theorem Each.step {α : Type} {G T z k n : Nat} {w : World} {cs : Nat → α → List Value} {El : World → Nat → α → Prop} {t : Nat → α} {a : α} (he : ∀ i, i < k → El w i (t i)) (ha : El w k a)
    (own : w.ownsRow G T z (.slice (some ⟨G, 0, none⟩) (k + 1) n) (k + 1) (fl (fun i => cs i (t i)) k ++ cs k a)) : ∃ t, Each G T z (k + 1) n w cs El t := by
  refine ⟨fun i => if i < k then t i else a, ?_, fun i hi => ?_⟩
  · have e : fl (fun i => cs i (if i < k then t i else a)) (k + 1) = fl (fun i => cs i (t i)) k ++ cs k a := by
      rw [fl, fl_congr (d := fun i => cs i (t i)) (fun i hi => by simp [hi])]
      simp
    rw [e]; exact own
  · rcases Nat.lt_or_eq_of_le (Nat.le_of_lt_succ hi) with h | rfl
    · simp only [h, if_true]; exact he i h
    · simp only [Nat.lt_irrefl, if_false]; exact ha

theorem Each.cell {α : Type} {G T z k n : Nat} {w : World} {cs : Nat → α → List Value} {El : World → Nat → α → Prop} {t : Nat → α} (h : Each G T z k n w cs El t) (hz : ∀ i a, (cs i a).length = z) {i r : Nat} (hi : i < k) (hr : r < z) {v : Value} (hv : (cs i (t i))[r]? = some v) : w.cell? ⟨G, i * z + r, none⟩ = some v := by
  have hlt : i * z + r < k * z := by have := Nat.mul_le_mul_right z (show i + 1 ≤ k from hi); rw [Nat.succ_mul] at this; omega
  rw [h.own.cellAt (i * z + r) hlt, fl_at (fun i => hz i _) k i r hi hr, hv]

def NewEach {α : Type} (T z n : Nat) (cs : Nat → α → List Value) (El : Nat → World → Nat → α → Prop) (w : World) (e : Ending) (w' : World) : Prop :=
  e = .returned (.slice (some ⟨w.heap.size, 0, none⟩) n n) ∧ (∃ t, Each w.heap.size T z n n w' cs (El (w.heap.size + 1)) t) ∧ Below w.heap.size w w'

/-- Of a row of numbers that was copied. -/
def ElS (N : Nat → Nat) (C : Nat → Nat → Int) (base : Nat) (w : World) (i : Nat) (t : Sl) : Prop :=
  t.n = N i ∧ Ints w t (C i) ∧ Mine base w.heap.size w t

theorem ElS.on {N : Nat → Nat} {C : Nat → Nat → Int} {base : Nat} {w w' : World} {i : Nat} {t : Sl} (hb : Below w.heap.size w w') (h : ElS N C base w i t) : ElS N C base w' i t :=
  ⟨h.1, h.2.1.on hb, (h.2.2.on hb (Nat.le_refl _)).wide (Nat.le_refl _) hb.size⟩

theorem ElS.grown {N : Nat → Nat} {C : Nat → Nat → Int} {base G : Nat} {w w' : World} {i : Nat} {t : Sl} (h : ElS N C base w i t) (hg : w.grownBy w' (some G)) (hG : G < base) : ElS N C base w' i t :=
  ⟨h.1, h.2.1.kept' h.2.2 (kept_of_grown hg) (fun b h1 h2 => ⟨by omega, h2⟩), (h.2.2.kept (kept_of_grown hg) (fun b h1 h2 => ⟨by omega, h2⟩)).wide (Nat.le_refl _) hg.size⟩

theorem info55c : (Try.prog.info? 68).map (fun i => (i.zero, i.size, i.bytes)) = some (some (.agg #[.string ByteArray.empty, .slice none 0 0, .int .i64 0]), 3, 48) := by kernel_rfl

theorem new_copyEachE_any (w : World) (x0 x1 x2 : Value) (t : TypeId) : ∀ j u, [x0, x1, x2][j]? = some u → (w.alloc (.cells #[x0, x1, x2] t)).cell? ((⟨w.heap.size, 0, none⟩ : Addr).add j) = some u := by
  intro j u hj
  match j, hj with
  | 0, hj => simp at hj; subst hj; simp [Addr.add]
  | 1, hj => simp at hj; subst hj; simp [Addr.add]
  | 2, hj => simp at hj; subst hj; simp [Addr.add]
  | (j + 3), hj => simp at hj

theorem info58c : (Try.prog.info? 71).map (fun i => (i.zero, i.size, i.bytes)) = some (some (.agg #[.string ByteArray.empty, .slice none 0 0]), 2, 40) := by kernel_rfl

theorem new_copyEachG_any (w : World) (x0 x1 : Value) (t : TypeId) : ∀ j u, [x0, x1][j]? = some u → (w.alloc (.cells #[x0, x1] t)).cell? ((⟨w.heap.size, 0, none⟩ : Addr).add j) = some u := by
  intro j u hj
  match j, hj with
  | 0, hj => simp at hj; subst hj; simp [Addr.add]
  | 1, hj => simp at hj; subst hj; simp [Addr.add]
  | (j + 2), hj => simp at hj

theorem info60c : (Try.prog.info? 73).map (fun i => (i.zero, i.size, i.bytes)) = some (some (.agg #[.string ByteArray.empty, .slice none 0 0]), 2, 40) := by kernel_rfl

theorem new_copyEachT_any (w : World) (x0 x1 : Value) (t : TypeId) : ∀ j u, [x0, x1][j]? = some u → (w.alloc (.cells #[x0, x1] t)).cell? ((⟨w.heap.size, 0, none⟩ : Addr).add j) = some u := by
  intro j u hj
  match j, hj with
  | 0, hj => simp at hj; subst hj; simp [Addr.add]
  | 1, hj => simp at hj; subst hj; simp [Addr.add]
  | (j + 2), hj => simp at hj

end Go.Proofs.Ytclioagemjpnoaa.CpM
