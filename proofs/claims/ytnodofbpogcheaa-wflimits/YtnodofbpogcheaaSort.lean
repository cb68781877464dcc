/-
  Sorting a Phi's entries: cmp.Compare, insertion sort, the stable sort at twenty entries or fewer.
-/
import Derived.Test.YtnodofbpogcheaaJ0
import Derived.Deep.RegionHeld3
import Derived.BigRegion
import Derived.Deep.QuietTactic
import Derived.BigQuiet
namespace Go.Proofs.Ytnodofbpogcheaa.Srt
open Go.RowKit View Rd

set_option linter.unusedVariables false

theorem nan_any (x : Int) (w : World) : Calls Try.prog 145 #[.int .i64 x] w fun e w' => e = .returned (.bool false) ∧ w' = w := by
  go_enter Try.func145, Try.ntmps145
  go_wp2
  go_ret
  exact ⟨by simp, rfl⟩

def cmp3 (x y : Int) : Int := if x < y then -1 else if y < x then 1 else 0

theorem compare_any (x y : Int) (w : World) : Calls Try.prog 130 #[.int .i64 x, .int .i64 y] w fun e w' => e = .returned (.int .i64 (cmp3 x y)) ∧ w' = w := by
  go_enter Try.func130, Try.ntmps130
  go_wp2_with (go_at_call 145; refine (nan_any _ _).mono ?_; rintro e w' ⟨rfl, rfl⟩)
  all_goals
    go_ret
    exact ⟨by simp only [cmp3]; (repeat' split) <;> first | rfl | omega, rfl⟩

theorem less_any (a b c d : Int) (w : World) : Calls Try.prog 129 #[.agg #[.int .i64 a, .int .i64 b], .agg #[.int .i64 c, .int .i64 d]] w fun e w' => e = .returned (.int .i64 (cmp3 b d)) ∧ Below w.heap.size w w' := by
  go_enter Try.func129, Try.ntmps129
  go_wp2_with (go_at_call 130; refine (compare_any _ _ _).mono ?_; rintro e w' ⟨rfl, rfl⟩)
  go_ret
  exact ⟨rfl, new (new (same w) _) _⟩

/-- n entries, two cells each, at the head of block E. -/
structure Ents (w : World) (E n : Nat) (p q : Nat → Int) : Prop where
  c0 : ∀ i, i < n → w.cell? ⟨E, i * 2, none⟩ = some (.int .i64 (p i))
  c1 : ∀ i, i < n → w.cell? ⟨E, i * 2 + 1, none⟩ = some (.int .i64 (q i))
  fz : ∀ i, w.frozen? ⟨E, i, none⟩ = false

/-- The first ones of those whose key is c, in order. -/
def sel (c : Int) (p q : Nat → Int) : Nat → List Int
  | 0 => []
  | n + 1 => sel c p q n ++ if q n = c then [p n] else []

def Rises (q : Nat → Int) (n : Nat) : Prop := ∀ x y, x < y → y < n → q x ≤ q y

def swp (f : Nat → Int) (j : Nat) : Nat → Int := fun i => if i = j + 1 then f j else if i = j then f (j + 1) else f i

theorem sel_congr {c : Int} {p q p' q' : Nat → Int} : ∀ {n : Nat}, (∀ i, i < n → p i = p' i ∧ q i = q' i) → sel c p q n = sel c p' q' n
  | 0, _ => rfl
  | n + 1, h => by rw [sel, sel, sel_congr (fun i hi => h i (by omega)), (h n (by omega)).1, (h n (by omega)).2]

theorem sel_swp {c : Int} {p q : Nat → Int} {j : Nat} (hne : q j ≠ q (j + 1)) : ∀ {n : Nat}, j + 1 < n → sel c (swp p j) (swp q j) n = sel c p q n
  | 0, h => by omega
  | n + 1, h => by
    rcases Nat.lt_or_eq_of_le (Nat.le_of_lt_succ h) with h' | h'
    · rw [sel, sel, sel_swp hne h']
      simp [swp, show n ≠ j + 1 by omega, show n ≠ j by omega]
    · subst h'
      have e : sel c (swp p j) (swp q j) j = sel c p q j := sel_congr fun i hi => by simp [swp, show i ≠ j + 1 by omega, show i ≠ j by omega]
      rw [sel, sel, sel, sel, e]
      simp only [swp, if_true, show j ≠ j + 1 by omega, if_false]
      by_cases h1 : q j = c
      · have h2 : ¬ q (j + 1) = c := fun h => hne (h1.trans h.symm)
        simp [h1, h2]
      · by_cases h2 : q (j + 1) = c <;> simp [h1, h2]

theorem grown_below {a b c : World} {E : Nat} (h : a.grownBy b (some E)) (k : Below b.heap.size b c) : a.grownBy c (some E) :=
  ⟨k.os.trans h.os, k.tape.trans h.tape, k.output.trans h.output, Nat.le_trans h.size k.size, fun i hi hne => by rw [k.block i (Nat.lt_of_lt_of_le hi h.size)]; exact h.block i hi hne⟩

theorem grown_set {a b : World} {E : Nat} (h : a.grownBy b (some E)) (i : Nat) (v : Value) : a.grownBy (b.setCell ⟨E, i, none⟩ v) (some E) :=
  ⟨h.os, h.tape, h.output, by rw [World.size_setCell]; exact h.size, fun k hk hne => by rw [Below.heap_setCell _ _ _ _ (fun e => hne (by rw [e]))]; exact h.block k hk hne⟩

theorem grown_drew {a b : World} {E : Nat} (h : a.grownBy b (some E)) : a.grownBy b.drew (some E) := ⟨h.os, h.tape, h.output, h.size, h.block⟩

theorem Ents.on {w w' : World} {E n : Nat} {p q : Nat → Int} (hE : E < w.heap.size) (hb : Below w.heap.size w w') (h : Ents w E n p q) : Ents w' E n p q :=
  ⟨fun i hi => cell_on hb (h.c0 i hi), fun i hi => cell_on hb (h.c1 i hi), fun i => by rw [hb.frozen (by exact hE)]; exact h.fz i⟩

/-- Where insertion stands: all but the one at j rise, and what lies behind j is greater. -/
structure Ins1 (q : Nat → Int) (i j : Nat) : Prop where
  rest : ∀ x y, x < y → y ≤ i → x ≠ j → y ≠ j → q x ≤ q y
  beyond : ∀ y, j < y → y ≤ i → q j ≤ q y

theorem Ins1.step {q : Nat → Int} {i j : Nat} (h : Ins1 q i (j + 1)) (hj : j + 1 ≤ i) (hlt : q (j + 1) < q j) : Ins1 (swp q j) i j := by
  constructor
  · intro x y hxy hy hx hy'
    by_cases e1 : x = j + 1
    · subst e1
      rw [show swp q j (j + 1) = q j by simp [swp], show swp q j y = q y by simp [swp, show y ≠ j + 1 by omega, show y ≠ j by omega]]
      exact h.rest j y (by omega) hy (by omega) (by omega)
    · rw [show swp q j x = q x by simp [swp, e1, hx]]
      by_cases e2 : y = j + 1
      · subst e2
        rw [show swp q j (j + 1) = q j by simp [swp]]
        exact h.rest x j (by omega) (by omega) e1 (by omega)
      · rw [show swp q j y = q y by simp [swp, e2, hy']]
        exact h.rest x y hxy hy e1 e2
  · intro y hy hyi
    simp only [swp, if_true, show j ≠ j + 1 by omega, if_false]
    split
    · omega
    · split
      · omega
      · exact h.beyond y (by omega) hyi

theorem Ins1.done {q : Nat → Int} {i j : Nat} (h : Ins1 q i j) (hj : j ≤ i) (he : j = 0 ∨ ∃ k, j = k + 1 ∧ q k ≤ q j) : Rises q (i + 1) := by
  intro x y hxy hy
  by_cases e1 : x = j
  · subst e1; exact h.beyond y hxy (by omega)
  · by_cases e2 : y = j
    · subst e2
      rcases he with rfl | ⟨k, rfl, hk⟩
      · omega
      · by_cases e3 : x = k
        · subst e3; exact hk
        · exact Int.le_trans (h.rest x k (by omega) (by omega) e1 (by omega)) hk
    · exact h.rest x y hxy (by omega) e1 e2

theorem Ins1.start {q : Nat → Int} {i : Nat} (h : Rises q i) : Ins1 q i i :=
  ⟨fun x y hxy hy hx hy' => h x y hxy (by omega), fun y hy hyi => by omega⟩

theorem size150 : (Try.prog.info? 150).map (fun i => i.size) = some 2 := by kernel_rfl

/-- insertion sort's state: what is in block E, behind what was done. -/
structure St (w wr : World) (E n : Nat) (p q p' q' : Nat → Int) : Prop where
  ents : Ents wr E n p' q'
  sels : ∀ c, sel c p' q' n = sel c p q n
  grown : w.grownBy wr (some E)

theorem Ents.swap {w : World} {E n : Nat} {p q : Nat → Int} (h : Ents w E n p q) {j : Nat} (hj : j + 1 < n) :
    Ents ((((w.setCell ⟨E, (j + 1) * 2, none⟩ (.int .i64 (p j))).setCell ⟨E, (j + 1) * 2 + 1, none⟩ (.int .i64 (q j))).setCell ⟨E, j * 2, none⟩ (.int .i64 (p (j + 1)))).setCell ⟨E, j * 2 + 1, none⟩ (.int .i64 (q (j + 1)))) E n (swp p j) (swp q j) := by
  have key : ∀ (i t : Nat) (u : Value), t < 2 → w.cell? ⟨E, i * 2 + t, none⟩ = some u → i ≠ j → i ≠ j + 1 → ((((w.setCell ⟨E, (j + 1) * 2, none⟩ (.int .i64 (p j))).setCell ⟨E, (j + 1) * 2 + 1, none⟩ (.int .i64 (q j))).setCell ⟨E, j * 2, none⟩ (.int .i64 (p (j + 1)))).setCell ⟨E, j * 2 + 1, none⟩ (.int .i64 (q (j + 1)))).cell? ⟨E, i * 2 + t, none⟩ = some u := fun i t u ht hc h1 h2 =>
    cell_other (ne_off (by omega)) (cell_other (ne_off (by omega)) (cell_other (ne_off (by omega)) (cell_other (ne_off (by omega)) hc)))
  refine ⟨fun i hi => ?_, fun i hi => ?_, fun i => ?_⟩
  · by_cases e1 : i = j + 1
    · subst e1
      rw [show swp p j (j + 1) = p j by simp [swp]]
      exact cell_other (ne_off (by omega)) (cell_other (ne_off (by omega)) (cell_other (ne_off (by omega)) (cell_same (h.c0 (j + 1) hi))))
    · by_cases e2 : i = j
      · subst e2
        rw [show swp p i i = p (i + 1) by simp [swp]]
        exact cell_other (ne_off (by omega)) (cell_same (cell_other (ne_off (by omega)) (cell_other (ne_off (by omega)) (h.c0 i hi))))
      · rw [show swp p j i = p i by simp [swp, e1, e2]]
        exact key i 0 _ (by omega) (h.c0 i hi) e2 e1
  · by_cases e1 : i = j + 1
    · subst e1
      rw [show swp q j (j + 1) = q j by simp [swp]]
      exact cell_other (ne_off (by omega)) (cell_other (ne_off (by omega)) (cell_same (cell_other (ne_off (by omega)) (h.c1 (j + 1) hi))))
    · by_cases e2 : i = j
      · subst e2
        rw [show swp q i i = q (i + 1) by simp [swp]]
        exact cell_same (cell_other (ne_off (by omega)) (cell_other (ne_off (by omega)) (cell_other (ne_off (by omega)) (h.c1 i hi))))
      · rw [show swp q j i = q i by simp [swp, e1, e2]]
        exact key i 1 _ (by omega) (h.c1 i hi) e2 e1
  · simp only [World.frozen?_setCell]; exact h.fz i

theorem cmp3_neg {x y : Int} (h : x < y) : decide (cmp3 x y < 0) = true := by simp [cmp3, h]
theorem cmp3_not {x y : Int} (h : ¬ x < y) : decide (cmp3 x y < 0) = false := by
  simp only [cmp3, if_neg h]; split <;> rfl

set_option maxHeartbeats 2000000 in
theorem insertion_any (E n c : Nat) (p q : Nat → Int) (w : World) (h : Ents w E n p q) (hE : E < w.heap.size) (hn : n ≤ 20) :
    Calls Try.prog 154 #[.slice (some ⟨E, 0, none⟩) n c, .int .i64 0, .int .i64 n, .func (.func 129) #[] #[]] w fun e w' => e = .returned (.tuple #[]) ∧ ∃ p' q', St w w' E n p q p' q' ∧ Rises q' n := by
  have H := hid h
  clear h
  go_enter Try.func154, Try.ntmps154
  go_wp2_with fail
  go_loopw [8] (fun i wr => ∃ k : Nat, 1 ≤ k ∧ k ≤ 21 ∧ i = .int .i64 k ∧ ∃ p' q', St w wr E n p q p' q' ∧ Rises q' k) (fun i _ => n - (intOf i).toNat)
  case atStart => exact ⟨1, Nat.le_refl _, by omega, rfl, p, q, ⟨H.out, fun _ => rfl, World.grownBy.refl _ _⟩, fun x y h1 h2 => by omega⟩
  case round =>
    obtain ⟨k, hk1, hk, rfl, p1, q1, hst, hri⟩ := hrel
    have HS := hid (And.intro hst hri)
    clear hst hri
    by_cases hlt : k < n
    · go_wp2_with fail
      go_loopw [9] (fun i wx => ∃ j : Nat, j ≤ k ∧ i = .int .i64 j ∧ ∃ p' q', St w wx E n p q p' q' ∧ Ins1 q' k j) (fun i _ => (intOf i).toNat)
      case atStart => exact ⟨k, Nat.le_refl _, rfl, p1, q1, HS.out.1, Ins1.start HS.out.2⟩
      case round =>
        clear HS
        obtain ⟨j, hj, rfl, p2, q2, hst, hin⟩ := hrel
        have HS := hid (And.intro hst hin)
        have hwz := hst.grown.size
        have hen := hst.ents
        clear hst hin
        rcases Nat.eq_zero_or_pos j with rfl | hj0
        · have HZ := hid (HS.out.2.done (Nat.zero_le _) (.inl rfl))
          go_wp2_with fail
          go_region
          go_wp2_with fail
          go_round
          case rel => exact ⟨k + 1, by omega, by omega, by go_num, p2, q2, ⟨⟨HS.out.1.ents.c0, HS.out.1.ents.c1, HS.out.1.ents.fz⟩, HS.out.1.sels, ⟨HS.out.1.grown.os, HS.out.1.grown.tape, HS.out.1.grown.output, HS.out.1.grown.size, HS.out.1.grown.block⟩⟩, HZ.out⟩
          case measure => simp [intOf]; omega
        · obtain ⟨i, hi⟩ : ∃ i, j = i + 1 := ⟨j - 1, by omega⟩
          have e0 := hen.c0 j (by omega)
          have e1 := hen.c1 j (by omega)
          have e2 := hen.c0 i (by omega)
          have e3 := hen.c1 i (by omega)
          have hfz := hen.fz
          have b0 : (0 : Int) < (j : Int) := by omega
          have b1 : (0 : Int) ≤ (j : Int) := by omega
          have b2 : (j : Int) < (n : Int) := by omega
          have b3 : (0 : Int) ≤ (i : Int) := by omega
          have b4 : (i : Int) < (n : Int) := by omega
          have b5 : IntKind.i64.wrap ((j : Int) - 1) = (i : Int) := by simp only [IntKind.wrap_i64]; omega
          have b6 : wrap64 ((j : Int) - 1) = (i : Int) := by unfold wrap64; omega
          have JI := hid hi
          have HW := hid hwz
          clear hen hi hwz
          go_wp2_with fail
          have HL := hid (less_any (p2 j) (q2 j) (p2 i) (q2 i))
          go_region_held3 (fun wx => wx.cell? ⟨E, j * 2, none⟩ = some (.int .i64 (p2 j)) ∧ wx.cell? ⟨E, j * 2 + 1, none⟩ = some (.int .i64 (q2 j)) ∧ wx.cell? ⟨E, i * 2, none⟩ = some (.int .i64 (p2 i)) ∧ wx.cell? ⟨E, i * 2 + 1, none⟩ = some (.int .i64 (q2 i))) (first | (go_keep; done) | exact ⟨cell_on hb2 e0, cell_on hb2 e1, cell_on hb2 e2, cell_on hb2 e3⟩) (first | (go_at_call 129; refine (HL.out _).mono ?_; rintro e w2 ⟨rfl, hb2⟩))
          have hb3 : Hid (Below wr.heap.size wr w2) := ⟨hb2.os, hb2.tape, hb2.output, hb2.size, hb2.block⟩
          have hst2 := hid (show St w w2 E n p q p2 q2 from ⟨HS.out.1.ents.on (by have := HW.out; omega) hb3.out, HS.out.1.sels, grown_below HS.out.1.grown hb3.out⟩)
          have e0' := hst2.out.ents.c0 j (by omega)
          have e1' := hst2.out.ents.c1 j (by omega)
          have e2' := hst2.out.ents.c0 i (by omega)
          have e3' := hst2.out.ents.c1 i (by omega)
          have hfz' := hst2.out.ents.fz
          clear e0 e1 e2 e3 hfz hb2
          by_cases hlv : q2 j < q2 i
          · have t1 := cmp3_neg hlv
            have t2 : cmp3 (q2 j) (q2 i) < 0 := by simpa using t1
            have s0 : ((w2.setCell ⟨E, j * 2, none⟩ (.int .i64 (p2 i))).setCell ⟨E, j * 2 + 1, none⟩ (.int .i64 (q2 i))).cell? ⟨E, i * 2, none⟩ = some (.int .i64 (p2 i)) := cell_other (ne_off (by have := JI.out; omega)) (cell_other (ne_off (by have := JI.out; omega)) e2')
            have s1 : ((w2.setCell ⟨E, j * 2, none⟩ (.int .i64 (p2 i))).setCell ⟨E, j * 2 + 1, none⟩ (.int .i64 (q2 i))).cell? ⟨E, i * 2 + 1, none⟩ = some (.int .i64 (q2 i)) := cell_other (ne_off (by have := JI.out; omega)) (cell_other (ne_off (by have := JI.out; omega)) e3')
            go_wp2_with fail
            go_region
            have hsw := hid (hst2.out.ents.swap (j := i) (by have := JI.out; omega))
            go_wp2_with fail
            go_round
            case rel =>
              refine ⟨i, by have := JI.out; omega, rfl, swp p2 i, swp q2 i, ⟨?_, ?_, ?_⟩, ?_⟩
              · have := hsw.out
                rw [← JI.out] at this
                exact ⟨this.c0, this.c1, this.fz⟩
              · intro c
                rw [sel_swp (by rw [← JI.out]; omega) (by have := JI.out; omega)]; exact HS.out.1.sels c
              · exact grown_drew (grown_set (grown_set (grown_set (grown_set hst2.out.grown _ _) _ _) _ _) _ _)
              · have := HS.out.2; rw [JI.out] at this; exact this.step (by have := JI.out; omega) (by rw [← JI.out]; omega)
            case measure => simp [intOf]; have := JI.out; omega
          · have t1 := cmp3_not hlv
            have t2 : (0 : Int) ≤ cmp3 (q2 j) (q2 i) := by simpa using t1
            go_wp2_with fail
            go_round
            case rel => exact ⟨k + 1, by omega, by omega, by go_num, p2, q2, hst2.out, HS.out.2.done hj (.inr ⟨i, JI.out, by omega⟩)⟩
            case measure => simp [intOf]; omega
    · go_wp2_with fail
      go_end0
      exact ⟨rfl, p1, q1, HS.out.1, fun x y h1 h2 => HS.out.2 x y h1 (by omega)⟩

end Go.Proofs.Ytnodofbpogcheaa.Srt
