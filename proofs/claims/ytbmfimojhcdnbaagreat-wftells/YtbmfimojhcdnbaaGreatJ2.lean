/-
  Sort, SortF: laid together.
-/
import Derived.Test.YtbmfimojhcdnbaaGreatJ0
import Derived.Deep.RegionHeld3
import Derived.BigRegion
import Derived.Deep.QuietTactic
import Derived.BigQuiet
import Derived.Test.YtbmfimojhcdnbaaGreatJ1
/-
  Sorting a Phi's entries: cmp.Compare, insertion sort, the stable sort at twenty entries or fewer.
-/
namespace Go.Proofs.YtbmfimojhcdnbaaGreat.Srt
open Go.RowKit View Rd

set_option linter.unusedVariables false

def cmp3 (x y : Int) : Int := if x < y then -1 else if y < x then 1 else 0

/-- n entries, two cells each, at the head of block E. -/
structure Ents (w : World) (E n : Nat) (p q : Nat → Int) : Prop where
  c0 : ∀ i, i < n → w.cell? ⟨E, i * 2, none⟩ = some (.int .i64 (p i))
  c1 : ∀ i, i < n → w.cell? ⟨E, i * 2 + 1, none⟩ = some (.int .i64 (q i))
  fz : ∀ i, w.frozen? ⟨E, i, none⟩ = false

/-- The first ones of those whose key is c, in order. -/
def sel (c : Int) (p q : Nat → Int) : Nat → List Int
  | 0 => []
  | n + 1 => sel c p q n ++ if q n = c then [p n] else []

def Rises (q : Nat → Int) (n : Nat) : Prop := ∀ x y, x < y → y < n → q x ≤ q y

def swp (f : Nat → Int) (j : Nat) : Nat → Int := fun i => if i = j + 1 then f j else if i = j then f (j + 1) else f i

theorem sel_congr {c : Int} {p q p' q' : Nat → Int} : ∀ {n : Nat}, (∀ i, i < n → p i = p' i ∧ q i = q' i) → sel c p q n = sel c p' q' n
  | 0, _ => rfl
  | n + 1, h => by rw [sel, sel, sel_congr (fun i hi => h i (by omega)), (h n (by omega)).1, (h n (by omega)).2]

theorem sel_swp {c : Int} {p q : Nat → Int} {j : Nat} (hne : q j ≠ q (j + 1)) : ∀ {n : Nat}, j + 1 < n → sel c (swp p j) (swp q j) n = sel c p q n
  | 0, h => by omega
  | n + 1, h => by
    rcases Nat.lt_or_eq_of_le (Nat.le_of_lt_succ h) with h' | h'
    · rw [sel, sel, sel_swp hne h']
      simp [swp, show n ≠ j + 1 by omega, show n ≠ j by omega]
    · subst h'
      have e : sel c (swp p j) (swp q j) j = sel c p q j := sel_congr fun i hi => by simp [swp, show i ≠ j + 1 by omega, show i ≠ j by omega]
      rw [sel, sel, sel, sel, e]
      simp only [swp, if_true, show j ≠ j + 1 by omega, if_false]
      by_cases h1 : q j = c
      · have h2 : ¬ q (j + 1) = c := fun h => hne (h1.trans h.symm)
        simp [h1, h2]
      · by_cases h2 : q (j + 1) = c <;> simp [h1, h2]

theorem grown_below {a b c : World} {E : Nat} (h : a.grownBy b (some E)) (k : Below b.heap.size b c) : a.grownBy c (some E) :=
  ⟨k.os.trans h.os, k.tape.trans h.tape, k.output.trans h.output, Nat.le_trans h.size k.size, fun i hi hne => by rw [k.block i (Nat.lt_of_lt_of_le hi h.size)]; exact h.block i hi hne⟩

theorem grown_set {a b : World} {E : Nat} (h : a.grownBy b (some E)) (i : Nat) (v : Value) : a.grownBy (b.setCell ⟨E, i, none⟩ v) (some E) :=
  ⟨h.os, h.tape, h.output, by rw [World.size_setCell]; exact h.size, fun k hk hne => by rw [Below.heap_setCell _ _ _ _ (fun e => hne (by rw [e]))]; exact h.block k hk hne⟩

theorem grown_drew {a b : World} {E : Nat} (h : a.grownBy b (some E)) : a.grownBy b.drew (some E) := ⟨h.os, h.tape, h.output, h.size, h.block⟩

theorem Ents.on {w w' : World} {E n : Nat} {p q : Nat → Int} (hE : E < w.heap.size) (hb : Below w.heap.size w w') (h : Ents w E n p q) : Ents w' E n p q :=
  ⟨fun i hi => cell_on hb (h.c0 i hi), fun i hi => cell_on hb (h.c1 i hi), fun i => by rw [hb.frozen (by exact hE)]; exact h.fz i⟩

/-- Where insertion stands: all but the one at j rise, and what lies behind j is greater. -/
structure Ins1 (q : Nat → Int) (i j : Nat) : Prop where
  rest : ∀ x y, x < y → y ≤ i → x ≠ j → y ≠ j → q x ≤ q y
  beyond : ∀ y, j < y → y ≤ i → q j ≤ q y

theorem Ins1.step {q : Nat → Int} {i j : Nat} (h : Ins1 q i (j + 1)) (hj : j + 1 ≤ i) (hlt : q (j + 1) < q j) : Ins1 (swp q j) i j := by
  constructor
  · intro x y hxy hy hx hy'
    by_cases e1 : x = j + 1
    · subst e1
      rw [show swp q j (j + 1) = q j by simp [swp], show swp q j y = q y by simp [swp, show y ≠ j + 1 by omega, show y ≠ j by omega]]
      exact h.rest j y (by omega) hy (by omega) (by omega)
    · rw [show swp q j x = q x by simp [swp, e1, hx]]
      by_cases e2 : y = j + 1
      · subst e2
        rw [show swp q j (j + 1) = q j by simp [swp]]
        exact h.rest x j (by omega) (by omega) e1 (by omega)
      · rw [show swp q j y = q y by simp [swp, e2, hy']]
        exact h.rest x y hxy hy e1 e2
  · intro y hy hyi
    simp only [swp, if_true, show j ≠ j + 1 by omega, if_false]
    split
    · omega
    · split
      · omega
      · exact h.beyond y (by omega) hyi

theorem Ins1.done {q : Nat → Int} {i j : Nat} (h : Ins1 q i j) (hj : j ≤ i) (he : j = 0 ∨ ∃ k, j = k + 1 ∧ q k ≤ q j) : Rises q (i + 1) := by
  intro x y hxy hy
  by_cases e1 : x = j
  · subst e1; exact h.beyond y hxy (by omega)
  · by_cases e2 : y = j
    · subst e2
      rcases he with rfl | ⟨k, rfl, hk⟩
      · omega
      · by_cases e3 : x = k
        · subst e3; exact hk
        · exact Int.le_trans (h.rest x k (by omega) (by omega) e1 (by omega)) hk
    · exact h.rest x y hxy (by omega) e1 e2

theorem Ins1.start {q : Nat → Int} {i : Nat} (h : Rises q i) : Ins1 q i i :=
  ⟨fun x y hxy hy hx hy' => h x y hxy (by omega), fun y hy hyi => by omega⟩

/-- insertion sort's state: what is in block E, behind what was done. -/
structure St (w wr : World) (E n : Nat) (p q p' q' : Nat → Int) : Prop where
  ents : Ents wr E n p' q'
  sels : ∀ c, sel c p' q' n = sel c p q n
  grown : w.grownBy wr (some E)

theorem Ents.swap {w : World} {E n : Nat} {p q : Nat → Int} (h : Ents w E n p q) {j : Nat} (hj : j + 1 < n) :
    Ents ((((w.setCell ⟨E, (j + 1) * 2, none⟩ (.int .i64 (p j))).setCell ⟨E, (j + 1) * 2 + 1, none⟩ (.int .i64 (q j))).setCell ⟨E, j * 2, none⟩ (.int .i64 (p (j + 1)))).setCell ⟨E, j * 2 + 1, none⟩ (.int .i64 (q (j + 1)))) E n (swp p j) (swp q j) := by
  have key : ∀ (i t : Nat) (u : Value), t < 2 → w.cell? ⟨E, i * 2 + t, none⟩ = some u → i ≠ j → i ≠ j + 1 → ((((w.setCell ⟨E, (j + 1) * 2, none⟩ (.int .i64 (p j))).setCell ⟨E, (j + 1) * 2 + 1, none⟩ (.int .i64 (q j))).setCell ⟨E, j * 2, none⟩ (.int .i64 (p (j + 1)))).setCell ⟨E, j * 2 + 1, none⟩ (.int .i64 (q (j + 1)))).cell? ⟨E, i * 2 + t, none⟩ = some u := fun i t u ht hc h1 h2 =>
    cell_other (ne_off (by omega)) (cell_other (ne_off (by omega)) (cell_other (ne_off (by omega)) (cell_other (ne_off (by omega)) hc)))
  refine ⟨fun i hi => ?_, fun i hi => ?_, fun i => ?_⟩
  · by_cases e1 : i = j + 1
    · subst e1
      rw [show swp p j (j + 1) = p j by simp [swp]]
      exact cell_other (ne_off (by omega)) (cell_other (ne_off (by omega)) (cell_other (ne_off (by omega)) (cell_same (h.c0 (j + 1) hi))))
    · by_cases e2 : i = j
      · subst e2
        rw [show swp p i i = p (i + 1) by simp [swp]]
        exact cell_other (ne_off (by omega)) (cell_same (cell_other (ne_off (by omega)) (cell_other (ne_off (by omega)) (h.c0 i hi))))
      · rw [show swp p j i = p i by simp [swp, e1, e2]]
        exact key i 0 _ (by omega) (h.c0 i hi) e2 e1
  · by_cases e1 : i = j + 1
    · subst e1
      rw [show swp q j (j + 1) = q j by simp [swp]]
      exact cell_other (ne_off (by omega)) (cell_other (ne_off (by omega)) (cell_same (cell_other (ne_off (by omega)) (h.c1 (j + 1) hi))))
    · by_cases e2 : i = j
      · subst e2
        rw [show swp q i i = q (i + 1) by simp [swp]]
        exact cell_same (cell_other (ne_off (by omega)) (cell_other (ne_off (by omega)) (cell_other (ne_off (by omega)) (h.c1 i hi))))
      · rw [show swp q j i = q i by simp [swp, e1, e2]]
        exact key i 1 _ (by omega) (h.c1 i hi) e2 e1
  · simp only [World.frozen?_setCell]; exact h.fz i

theorem cmp3_neg {x y : Int} (h : x < y) : decide (cmp3 x y < 0) = true := by simp [cmp3, h]
theorem cmp3_not {x y : Int} (h : ¬ x < y) : decide (cmp3 x y < 0) = false := by
  simp only [cmp3, if_neg h]; split <;> rfl

end Go.Proofs.YtbmfimojhcdnbaaGreat.Srt

/-
  The stable sort at twenty entries or fewer, and what it makes of a Phi's rows.
-/
namespace Go.Proofs.YtbmfimojhcdnbaaGreat.Srt
open Go.RowKit View Rd

set_option linter.unusedVariables false

def Sorted (w : World) (E n : Nat) (p q : Nat → Int) (e : Ending) (w' : World) : Prop := e = .returned (.tuple #[]) ∧ ∃ p' q', St w w' E n p q p' q' ∧ Rises q' n

/-- But for the blocks that p names, and new ones, memory is as it was. -/
structure Turn (p : Nat → Prop) (w w' : World) : Prop where
  os : w'.os = w.os
  tape : w'.tape = w.tape
  output : w'.output = w.output
  size : w.heap.size ≤ w'.heap.size
  block : ∀ k, k < w.heap.size → ¬ p k → w'.heap[k]? = w.heap[k]?
  froz : ∀ a : Addr, a.block < w.heap.size → w'.frozen? a = w.frozen? a

theorem Turn.refl (p : Nat → Prop) (w : World) : Turn p w w := ⟨rfl, rfl, rfl, Nat.le_refl _, fun _ _ _ => rfl, fun _ _ => rfl⟩
theorem Turn.of_below {p : Nat → Prop} {w w' : World} (h : Below w.heap.size w w') : Turn p w w' := ⟨h.os, h.tape, h.output, h.size, fun k hk _ => h.block k hk, fun a ha => h.frozen ha⟩
theorem Turn.below {p : Nat → Prop} {w a b : World} (h : Turn p w a) (k : Below a.heap.size a b) : Turn p w b :=
  ⟨k.os.trans h.os, k.tape.trans h.tape, k.output.trans h.output, Nat.le_trans h.size k.size, fun i hi hp => by rw [k.block i (Nat.lt_of_lt_of_le hi h.size)]; exact h.block i hi hp, fun x hx => by rw [k.frozen (Nat.lt_of_lt_of_le hx h.size)]; exact h.froz x hx⟩
theorem Turn.setCell {p : Nat → Prop} {w a : World} (h : Turn p w a) {x : Addr} (hx : p x.block ∨ w.heap.size ≤ x.block) (v : Value) : Turn p w (a.setCell x v) :=
  ⟨h.os, h.tape, h.output, by rw [World.size_setCell]; exact h.size, fun i hi hp => by rw [Below.heap_setCell _ _ _ _ (fun e => by subst e; rcases hx with hx | hx; exact hp hx; omega)]; exact h.block i hi hp, fun y hy => by rw [World.frozen?_setCell]; exact h.froz y hy⟩
theorem Turn.drew {p : Nat → Prop} {w a : World} (h : Turn p w a) : Turn p w a.drew := ⟨h.os, h.tape, h.output, h.size, h.block, h.froz⟩
theorem Turn.alloc {p : Nat → Prop} {w a : World} (h : Turn p w a) (o : Obj) : Turn p w (a.alloc o) := h.below (new (same _) _)
theorem Turn.grown {p : Nat → Prop} {w a b : World} {E : Nat} (h : Turn p w a) (k : a.grownBy b (some E)) (hE : w.heap.size ≤ E) : Turn p w b :=
  ⟨k.os.trans h.os, k.tape.trans h.tape, k.output.trans h.output, Nat.le_trans h.size k.size, fun i hi hp => by rw [k.block i (Nat.lt_of_lt_of_le hi h.size) (fun e => by have := Option.some.inj e; omega)]; exact h.block i hi hp, fun x hx => by rw [World.frozen?_of_block (w := a) (k.block x.block (Nat.lt_of_lt_of_le hx h.size) (fun e => by have := Option.some.inj e; omega))]; exact h.froz x hx⟩
theorem Turn.kept {p : Nat → Prop} {w w' : World} (h : Turn p w w') : Kept (fun k => k < w.heap.size ∧ ¬ p k) w w' := ⟨h.size, fun k hk => h.block k hk.1 hk.2⟩

theorem Turn.wide {p q : Nat → Prop} {w w' : World} (h : Turn p w w') (hpq : ∀ b, p b → q b) : Turn q w w' := ⟨h.os, h.tape, h.output, h.size, fun k hk hq => h.block k hk (fun hp => hq (hpq k hp)), h.froz⟩
theorem Turn.trans {p : Nat → Prop} {a b c : World} (h : Turn p a b) (k : Turn p b c) : Turn p a c :=
  ⟨k.os.trans h.os, k.tape.trans h.tape, k.output.trans h.output, Nat.le_trans h.size k.size, fun i hi hp => (k.block i (Nat.lt_of_lt_of_le hi h.size) hp).trans (h.block i hi hp), fun x hx => (k.froz x (Nat.lt_of_lt_of_le hx h.size)).trans (h.froz x hx)⟩

/-- In order by the second, of the same the first one first. -/
def StSort (a j a' j' : Nat → Int) (n : Nat) : Prop := Rises j' n ∧ ∀ c, sel c a' j' n = sel c a j n

def ent (a j : Nat → Int) : Nat → List Value
  | 0 => []
  | k + 1 => ent a j k ++ [.int .i64 (a k), .int .i64 (j k)]

theorem ent_length (a j : Nat → Int) : ∀ k, (ent a j k).length = k * 2
  | 0 => rfl
  | k + 1 => by rw [ent, List.length_append, ent_length a j k]; simp; omega

theorem ent_at (a j : Nat → Int) : ∀ k t, t < k → (ent a j k)[t * 2]? = some (.int .i64 (a t)) ∧ (ent a j k)[t * 2 + 1]? = some (.int .i64 (j t))
  | 0, t, h => by omega
  | k + 1, t, h => by
    rw [ent]
    rcases Nat.lt_or_eq_of_le (Nat.le_of_lt_succ h) with h' | rfl
    · rw [List.getElem?_append_left (by rw [ent_length]; omega), List.getElem?_append_left (by rw [ent_length]; omega)]
      exact ent_at a j k t h'
    · rw [List.getElem?_append_right (by rw [ent_length]; omega), List.getElem?_append_right (by rw [ent_length]; omega), ent_length]
      rw [show t * 2 - t * 2 = 0 by omega, show t * 2 + 1 - t * 2 = 1 by omega]
      exact ⟨rfl, rfl⟩

theorem own_at {w : World} {s : Sl} {f : Nat → Int} (h : Ints w s f) {g : Nat} (hg : s.a = some ⟨g, 0, none⟩) {k : Nat} (hk : k < s.n) :
    (∀ wx, (Instr.indexAt 40 (.slice s.a s.n s.c) (.int .i64 k)).run Tryz.prog wx = .ok (.pointer (some ⟨g, k, none⟩)) wx) ∧ w.cell? ⟨g, k, none⟩ = some (.int .i64 (f k)) := by
  obtain ⟨b, off, ha, hc⟩ := h.2.2.2 (by omega)
  have e := hg.symm.trans ha
  simp at e
  obtain ⟨rfl, rfl⟩ := e
  exact ⟨by have := index_row hg underlying40 size3 hk; simpa using this, by simpa using hc k hk⟩

theorem own_set {w : World} {s : Sl} {f : Nat → Int} (h : Ints w s f) {g : Nat} (hg : s.a = some ⟨g, 0, none⟩) {k : Nat} (hk : k < s.n) (v : Int) : Ints (w.setCell ⟨g, k, none⟩ (.int .i64 v)) s (fun i => if i = k then v else f i) :=
  ⟨h.1, h.2.1, h.2.2.1, fun h0 => ⟨g, 0, hg, fun i hi => by
    simp only [Nat.zero_add]
    by_cases e : i = k
    · subst e; rw [if_pos rfl]; exact cell_same (own_at h hg hi).2
    · rw [if_neg e]; exact cell_other (ne_off (fun h => e h.symm)) (own_at h hg hi).2⟩⟩

theorem own_other {w : World} {s : Sl} {f : Nat → Int} (h : Ints w s f) {a : Addr} (hne : ∀ b o, s.a = some ⟨b, o, none⟩ → 0 < s.n → b ≠ a.block) (v : Value) : Ints (w.setCell a v) s f :=
  h.kept ((Kept.refl (fun k => k ≠ a.block) w).setCell (fun h => h rfl) v) hne

def mix (k : Nat) (f g : Nat → Int) : Nat → Int := fun i => if i < k then f i else g i

theorem mix_step (k : Nat) (f g : Nat → Int) (i : Nat) : (if i = k then f k else mix k f g i) = mix (k + 1) f g i := by
  unfold mix
  by_cases h : i = k
  · subst h; simp
  · by_cases h' : i < k
    · simp [h, h', Nat.lt_succ_of_lt h']
    · simp [h, h', show ¬ i < k + 1 by omega]

/-- Two rows of the call's own, sorted together. -/
def Both (s t : Sl) (a j : Nat → Int) (w : World) (e : Ending) (w' : World) : Prop :=
  e = .returned (.tuple #[]) ∧ ∃ a' j', Ints w' s a' ∧ Ints w' t j' ∧ StSort a j a' j' s.n ∧ Turn (fun k => 0 < s.n ∧ ((∃ o, s.a = some ⟨k, o, none⟩) ∨ ∃ o, t.a = some ⟨k, o, none⟩)) w w'

end Go.Proofs.YtbmfimojhcdnbaaGreat.Srt
