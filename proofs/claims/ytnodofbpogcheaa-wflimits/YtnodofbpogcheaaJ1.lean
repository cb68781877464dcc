/-
  SortF, Own, Phis, Num, Open, Light: laid together.
-/
import Derived.Test.YtnodofbpogcheaaSort
import Derived.Test.YtnodofbpogcheaaJ0
import Derived.Maps.OwnSet
import Derived.Maps.OwnOps
import Derived.Deep.Slices
import Derived.OpenShut
import Derived.SizedLaws
import Derived.ProofKit
/-
  The stable sort at twenty entries or fewer, and what it makes of a Phi's rows.
-/
namespace Go.Proofs.Ytnodofbpogcheaa.Srt
open Go.RowKit View Rd

set_option linter.unusedVariables false

theorem insertion_none (v : Value) (m : Nat) (g : Value) (w : World) (hm : m ≤ 20) :
    Calls Try.prog 154 #[v, .int .i64 m, .int .i64 m, g] w fun e w' => e = .returned (.tuple #[]) ∧ w' = w := by
  go_enter Try.func154, Try.ntmps154
  go_wp2_with fail
  refine wp_loop_rounds 1 ?_
  rw [rounds_succ]
  go_wp2_with fail
  go_end0
  exact ⟨rfl, rfl⟩

def Sorted (w : World) (E n : Nat) (p q : Nat → Int) (e : Ending) (w' : World) : Prop := e = .returned (.tuple #[]) ∧ ∃ p' q', St w w' E n p q p' q' ∧ Rises q' n

set_option maxHeartbeats 1000000 in
theorem stable_any (E n c : Nat) (p q : Nat → Int) (w : World) (h : Ents w E n p q) (hE : E < w.heap.size) (hn : n ≤ 20) :
    Calls Try.prog 144 #[.slice (some ⟨E, 0, none⟩) n c, .int .i64 n, .func (.func 129) #[] #[]] w fun e w' => Sorted w E n p q e w' := by
  have HI := hid (insertion_any E n c p q w h hE hn)
  clear h
  rcases Nat.lt_or_eq_of_le hn with h20 | rfl
  · go_enter Try.func144, Try.ntmps144
    go_wp2_with fail
    refine wp_loop_rounds 1 ?_
    rw [rounds_succ]
    go_wp2_with fail
    refine HI.out.mono ?_
    rintro e w1 ⟨rfl, hs⟩
    have HS := hid hs
    clear hs
    go_wp2_with fail
    refine wp_loop_rounds 1 ?_
    rw [rounds_succ]
    go_wp2_with fail
    go_end0
    exact ⟨rfl, HS.out⟩
  · go_enter Try.func144, Try.ntmps144
    go_wp2_with fail
    refine wp_loop_rounds 2 ?_
    rw [rounds_succ]
    go_wp2_with fail
    refine HI.out.mono ?_
    rintro e w1 ⟨rfl, hs⟩
    have HS := hid hs
    clear hs
    go_wp2_with fail
    rw [rounds_succ]
    go_wp2_with fail
    refine (insertion_none _ 20 _ _ (Nat.le_refl _)).mono ?_
    rintro e w2 ⟨rfl, rfl⟩
    go_wp2_with fail
    refine wp_loop_rounds 1 ?_
    rw [rounds_succ]
    go_wp2_with fail
    go_end0
    exact ⟨rfl, HS.out⟩

theorem sortStable_any (E n c : Nat) (p q : Nat → Int) (w : World) (h : Ents w E n p q) (hE : E < w.heap.size) (hn : n ≤ 20) :
    Calls Try.prog 128 #[.slice (some ⟨E, 0, none⟩) n c, .func (.func 129) #[] #[]] w fun e w' => Sorted w E n p q e w' := by
  have HI := hid (stable_any E n c p q w h hE hn)
  clear h
  go_enter Try.func128, Try.ntmps128
  go_wp2_with fail
  refine HI.out.mono ?_
  rintro e w1 ⟨rfl, hs⟩
  have HS := hid hs
  clear hs
  go_wp2_with fail
  go_end0
  exact ⟨rfl, HS.out⟩

/-- But for the blocks that p names, and new ones, memory is as it was. -/
structure Turn (p : Nat → Prop) (w w' : World) : Prop where
  os : w'.os = w.os
  tape : w'.tape = w.tape
  output : w'.output = w.output
  size : w.heap.size ≤ w'.heap.size
  block : ∀ k, k < w.heap.size → ¬ p k → w'.heap[k]? = w.heap[k]?
  froz : ∀ a : Addr, a.block < w.heap.size → w'.frozen? a = w.frozen? a

theorem Turn.refl (p : Nat → Prop) (w : World) : Turn p w w := ⟨rfl, rfl, rfl, Nat.le_refl _, fun _ _ _ => rfl, fun _ _ => rfl⟩
theorem Turn.of_below {p : Nat → Prop} {w w' : World} (h : Below w.heap.size w w') : Turn p w w' := ⟨h.os, h.tape, h.output, h.size, fun k hk _ => h.block k hk, fun a ha => h.frozen ha⟩
theorem Turn.below {p : Nat → Prop} {w a b : World} (h : Turn p w a) (k : Below a.heap.size a b) : Turn p w b :=
  ⟨k.os.trans h.os, k.tape.trans h.tape, k.output.trans h.output, Nat.le_trans h.size k.size, fun i hi hp => by rw [k.block i (Nat.lt_of_lt_of_le hi h.size)]; exact h.block i hi hp, fun x hx => by rw [k.frozen (Nat.lt_of_lt_of_le hx h.size)]; exact h.froz x hx⟩
theorem Turn.setCell {p : Nat → Prop} {w a : World} (h : Turn p w a) {x : Addr} (hx : p x.block ∨ w.heap.size ≤ x.block) (v : Value) : Turn p w (a.setCell x v) :=
  ⟨h.os, h.tape, h.output, by rw [World.size_setCell]; exact h.size, fun i hi hp => by rw [Below.heap_setCell _ _ _ _ (fun e => by subst e; rcases hx with hx | hx; exact hp hx; omega)]; exact h.block i hi hp, fun y hy => by rw [World.frozen?_setCell]; exact h.froz y hy⟩
theorem Turn.drew {p : Nat → Prop} {w a : World} (h : Turn p w a) : Turn p w a.drew := ⟨h.os, h.tape, h.output, h.size, h.block, h.froz⟩
theorem Turn.alloc {p : Nat → Prop} {w a : World} (h : Turn p w a) (o : Obj) : Turn p w (a.alloc o) := h.below (new (same _) _)
theorem Turn.grown {p : Nat → Prop} {w a b : World} {E : Nat} (h : Turn p w a) (k : a.grownBy b (some E)) (hE : w.heap.size ≤ E) : Turn p w b :=
  ⟨k.os.trans h.os, k.tape.trans h.tape, k.output.trans h.output, Nat.le_trans h.size k.size, fun i hi hp => by rw [k.block i (Nat.lt_of_lt_of_le hi h.size) (fun e => by have := Option.some.inj e; omega)]; exact h.block i hi hp, fun x hx => by rw [World.frozen?_of_block (w := a) (k.block x.block (Nat.lt_of_lt_of_le hx h.size) (fun e => by have := Option.some.inj e; omega))]; exact h.froz x hx⟩
theorem Turn.kept {p : Nat → Prop} {w w' : World} (h : Turn p w w') : Kept (fun k => k < w.heap.size ∧ ¬ p k) w w' := ⟨h.size, fun k hk => h.block k hk.1 hk.2⟩

theorem Turn.wide {p q : Nat → Prop} {w w' : World} (h : Turn p w w') (hpq : ∀ b, p b → q b) : Turn q w w' := ⟨h.os, h.tape, h.output, h.size, fun k hk hq => h.block k hk (fun hp => hq (hpq k hp)), h.froz⟩
theorem Turn.trans {p : Nat → Prop} {a b c : World} (h : Turn p a b) (k : Turn p b c) : Turn p a c :=
  ⟨k.os.trans h.os, k.tape.trans h.tape, k.output.trans h.output, Nat.le_trans h.size k.size, fun i hi hp => (k.block i (Nat.lt_of_lt_of_le hi h.size) hp).trans (h.block i hi hp), fun x hx => (k.froz x (Nat.lt_of_lt_of_le hx h.size)).trans (h.froz x hx)⟩

/-- In order by the second, of the same the first one first. -/
def StSort (a j a' j' : Nat → Int) (n : Nat) : Prop := Rises j' n ∧ ∀ c, sel c a' j' n = sel c a j n

def ent (a j : Nat → Int) : Nat → List Value
  | 0 => []
  | k + 1 => ent a j k ++ [.int .i64 (a k), .int .i64 (j k)]

theorem ent_length (a j : Nat → Int) : ∀ k, (ent a j k).length = k * 2
  | 0 => rfl
  | k + 1 => by rw [ent, List.length_append, ent_length a j k]; simp; omega

theorem ent_at (a j : Nat → Int) : ∀ k t, t < k → (ent a j k)[t * 2]? = some (.int .i64 (a t)) ∧ (ent a j k)[t * 2 + 1]? = some (.int .i64 (j t))
  | 0, t, h => by omega
  | k + 1, t, h => by
    rw [ent]
    rcases Nat.lt_or_eq_of_le (Nat.le_of_lt_succ h) with h' | rfl
    · rw [List.getElem?_append_left (by rw [ent_length]; omega), List.getElem?_append_left (by rw [ent_length]; omega)]
      exact ent_at a j k t h'
    · rw [List.getElem?_append_right (by rw [ent_length]; omega), List.getElem?_append_right (by rw [ent_length]; omega), ent_length]
      rw [show t * 2 - t * 2 = 0 by omega, show t * 2 + 1 - t * 2 = 1 by omega]
      exact ⟨rfl, rfl⟩

theorem ents_of {w : World} {E n c : Nat} {a j : Nat → Int} (h : w.ownsRow E 150 2 (.slice (some ⟨E, 0, none⟩) n c) n (ent a j n)) : Ents w E n a j :=
  ⟨fun i hi => by rw [h.cellAt (i * 2) (by omega)]; exact (ent_at a j n i hi).1, fun i hi => by rw [h.cellAt (i * 2 + 1) (by omega)]; exact (ent_at a j n i hi).2, fun i => h.frozenAt i⟩

theorem info150 : (Try.prog.info? 150).map (fun i => (i.zero, i.size, i.bytes)) = some (some (.agg #[.int .i64 0, .int .i64 0]), 2, 16) := by kernel_rfl
theorem underlying148 : Try.prog.underlying 148 = some (.slice 150) := by kernel_rfl

theorem own_at {w : World} {s : Sl} {f : Nat → Int} (h : Ints w s f) {g : Nat} (hg : s.a = some ⟨g, 0, none⟩) {k : Nat} (hk : k < s.n) :
    (∀ wx, (Instr.indexAt 28 (.slice s.a s.n s.c) (.int .i64 k)).run Try.prog wx = .ok (.pointer (some ⟨g, k, none⟩)) wx) ∧ w.cell? ⟨g, k, none⟩ = some (.int .i64 (f k)) := by
  obtain ⟨b, off, ha, hc⟩ := h.2.2.2 (by omega)
  have e := hg.symm.trans ha
  simp at e
  obtain ⟨rfl, rfl⟩ := e
  exact ⟨by have := index_row hg underlying28 size3 hk; simpa using this, by simpa using hc k hk⟩

theorem own_set {w : World} {s : Sl} {f : Nat → Int} (h : Ints w s f) {g : Nat} (hg : s.a = some ⟨g, 0, none⟩) {k : Nat} (hk : k < s.n) (v : Int) : Ints (w.setCell ⟨g, k, none⟩ (.int .i64 v)) s (fun i => if i = k then v else f i) :=
  ⟨h.1, h.2.1, h.2.2.1, fun h0 => ⟨g, 0, hg, fun i hi => by
    simp only [Nat.zero_add]
    by_cases e : i = k
    · subst e; rw [if_pos rfl]; exact cell_same (own_at h hg hi).2
    · rw [if_neg e]; exact cell_other (ne_off (fun h => e h.symm)) (own_at h hg hi).2⟩⟩

theorem own_other {w : World} {s : Sl} {f : Nat → Int} (h : Ints w s f) {a : Addr} (hne : ∀ b o, s.a = some ⟨b, o, none⟩ → 0 < s.n → b ≠ a.block) (v : Value) : Ints (w.setCell a v) s f :=
  h.kept ((Kept.refl (fun k => k ≠ a.block) w).setCell (fun h => h rfl) v) hne

def mix (k : Nat) (f g : Nat → Int) : Nat → Int := fun i => if i < k then f i else g i

theorem mix_step (k : Nat) (f g : Nat → Int) (i : Nat) : (if i = k then f k else mix k f g i) = mix (k + 1) f g i := by
  unfold mix
  by_cases h : i = k
  · subst h; simp
  · by_cases h' : i < k
    · simp [h, h', Nat.lt_succ_of_lt h']
    · simp [h, h', show ¬ i < k + 1 by omega]

/-- Two rows of the call's own, sorted together. -/
def Both (s t : Sl) (a j : Nat → Int) (w : World) (e : Ending) (w' : World) : Prop :=
  e = .returned (.tuple #[]) ∧ ∃ a' j', Ints w' s a' ∧ Ints w' t j' ∧ StSort a j a' j' s.n ∧ Turn (fun k => 0 < s.n ∧ ((∃ o, s.a = some ⟨k, o, none⟩) ∨ ∃ o, t.a = some ⟨k, o, none⟩)) w w'

set_option maxHeartbeats 1000000 in
theorem sortEntries_any (s t : Sl) (a j : Nat → Int) (b T : Nat) (w : World) (hs : Ints w s a) (ht : Ints w t j) (ms : Mine b T w s) (mt : Mine b T w t) (hT : T ≤ w.heap.size)
    (hne : ∀ g g', s.a = some ⟨g, 0, none⟩ → t.a = some ⟨g', 0, none⟩ → 0 < s.n → g ≠ g') (hn : t.n = s.n) (h20 : s.n ≤ 20) :
    Calls Try.prog 96 #[.slice s.a s.n s.c, .slice t.a t.n t.c] w fun e w' => Both s t a j w e w' := by
  obtain ⟨i0, hi, hz0, hz1, hz2⟩ := info_parts info150
  have HN := hid hn
  have htn : t.n ≤ 20 := by omega
  clear hn
  have HS := hid hs
  have HT := hid ht
  have MS := hid ms
  have MT := hid mt
  have NE := hid hne
  clear hs ht ms mt hne
  go_enter Try.func96, Try.ntmps96
  go_wp2_with (at_make; refine wpList_make_own _ rfl (.const (.int .i64 0)) (.tmp 10) 148 rfl w.heap.size 150 i0 (.agg #[.int .i64 0, .int .i64 0]) 2 underlying148 hi hz0 hz1 .i64 .i64 t.n t.n rfl rfl rfl (by rw [hz2]; omega) (by simp only [maxLen]; omega) (Nat.le_refl _) ?_; intro w1 hown1 hgr1)
  have hb1 : Below w.heap.size w w1 := (same w).grown hgr1 (Nat.le_refl _) (fun k hk => by cases hk)
  have hlt1 : w.heap.size < w1.heap.size := by obtain ⟨_, h⟩ := hown1.lt w.heap.size rfl; exact h
  have HO1 := hid hown1
  clear hown1 hgr1
  go_loopw [4, 14] (fun v i wr => ∃ k : Nat, k ≤ t.n ∧ i = .int .i64 k ∧ v = .slice (some ⟨w.heap.size, 0, none⟩) k t.n ∧ wr.ownsRow w.heap.size 150 2 (.slice (some ⟨w.heap.size, 0, none⟩) k t.n) k (ent a j k) ∧ Below w.heap.size w wr) (fun _ i _ => t.n - (intOf i).toNat)
  case atStart => exact ⟨0, Nat.zero_le _, rfl, rfl, HO1.out, hb1⟩
  case round =>
    clear HO1 hb1 hlt1
    obtain ⟨k, hk, rfl, rfl, hown, hb⟩ := hrel
    have HO := hid hown
    clear hown
    by_cases hlt : k < t.n
    · obtain ⟨b1, o1, hix1, hc1⟩ := (HS.out.on hb).at (k := k) (by have := HN.out; omega)
      obtain ⟨b2, o2, hix2, hc2⟩ := (HT.out.on hb).at hlt
      go_wp2_with (at_builtin; refine wpList_append_fits _ rfl (.tmp 19) (.tmp 26) 148 rfl w.heap.size 150 i0 2 underlying148 hi hz1 w.heap.size k t.n _ rfl (HO.out.alloc _) ⟨wr.heap.size, 0, none⟩ 1 1 [.int .i64 (a k), .int .i64 (j k)] rfl rfl ?c1 ?c2 ?c3 ?_)
      case c1 => exact cell_two_new _ _ _ _
      case c2 => intro u hu; simp at hu; rcases hu with rfl | rfl <;> rfl
      case c3 => omega
      intro w4 hown4 hgr4
      have hbl : Below w.heap.size w w4 := (new hb _).grown hgr4 (by have := hb.size; simp; omega) (fun k hk => by cases hk; exact Nat.le_refl _)
      have HW := hid hown4
      clear hown4 hgr4
      go_wp2
      go_round
      case rel => exact ⟨k + 1, by omega, by go_num, rfl, HW.out, hbl⟩
      case measure => simp [intOf]; omega
    · obtain rfl : k = t.n := by omega
      have hE : w.heap.size < wr.heap.size := (HO.out.lt w.heap.size rfl).2
      go_wp2_with fail
      refine (sortStable_any w.heap.size t.n t.n a j _ (ents_of HO.out) hE htn).mono ?_
      rintro e w2 ⟨rfl, p, q, hst, hri⟩
      have hE2 : w.heap.size < w2.heap.size := Nat.lt_of_lt_of_le hE hst.grown.size
      have ht2 : Turn (fun k => 0 < s.n ∧ ((∃ o, s.a = some ⟨k, o, none⟩) ∨ ∃ o, t.a = some ⟨k, o, none⟩)) w w2 := (Turn.of_below hb).grown hst.grown (Nat.le_refl _)
      have kk : Kept (fun k => k ≠ w.heap.size ∧ k < wr.heap.size) wr w2 := kept_of_grown hst.grown
      have hzb := hb.size
      have is2 : Ints w2 s a := (HS.out.on hb).kept' (MS.out.on hb hT) kk (fun b _ h => by constructor <;> omega)
      have it2 : Ints w2 t j := (HT.out.on hb).kept' (MT.out.on hb hT) kk (fun b _ h => by constructor <;> omega)
      have ALL := hid (And.intro is2 (And.intro it2 (And.intro ht2 hst.ents)))
      have SRT := hid (show StSort a j p q t.n from ⟨hri, hst.sels⟩)
      clear hst hri ht2 kk is2 it2 HO hb hE
      go_wp2_with fail
      go_loopw [33] (fun i wr => ∃ k : Nat, k ≤ t.n ∧ i = .int .i64 k ∧ Ints wr s (mix k p a) ∧ Ints wr t (mix k q j) ∧ Turn (fun k => 0 < s.n ∧ ((∃ o, s.a = some ⟨k, o, none⟩) ∨ ∃ o, t.a = some ⟨k, o, none⟩)) w wr ∧ Ents wr w.heap.size t.n p q ∧ w.heap.size < wr.heap.size) (fun i _ => t.n - (intOf i).toNat)
      case atStart => exact ⟨0, Nat.zero_le _, rfl, ALL.out.1.congr (fun i _ => by simp [mix]), ALL.out.2.1.congr (fun i _ => by simp [mix]), ALL.out.2.2.1, ALL.out.2.2.2, hE2⟩
      case round =>
        clear ALL hE2
        obtain ⟨k, hk, rfl, is, it, htn2, hen, hEr⟩ := hrel
        have ALL := hid (And.intro is (And.intro it (And.intro htn2 hen)))
        by_cases hlt : k < t.n
        · have hlt' : k < s.n := by have := HN.out; omega
          obtain ⟨g, hg, hg1, hg2, hgf⟩ := MS.out (by omega)
          obtain ⟨g', hg', hg1', hg2', hgf'⟩ := MT.out (by omega)
          have hgg := NE.out g g' hg hg' (by omega)
          obtain ⟨x1, c1⟩ := own_at is hg hlt'
          obtain ⟨x2, c2⟩ := own_at it hg' hlt
          have f1 : wr.frozen? ⟨g, k, none⟩ = false := by rw [htn2.froz _ (by show g < _; omega)]; exact hgf k
          have f2 : wr.frozen? ⟨g', k, none⟩ = false := by rw [htn2.froz _ (by show g' < _; omega)]; exact hgf' k
          have e0 := hen.c0 k hlt
          have e1 := hen.c1 k hlt
          have y1 : g < wr.heap.size := by omega
          have y2 : g' < wr.heap.size := by omega
          have y3 : ¬ g = wr.heap.size := by omega
          have y4 : ¬ g' = wr.heap.size := by omega
          have hgg' : ¬ g' = g := fun h => hgg h.symm
          have GS := hid hg
          have GT := hid hg'
          clear is it htn2 hen hg hg' hgf hgf'
          go_wp2_with fail
          go_region
          go_wp2_with fail
          go_round
          case rel =>
            have is3 := own_other (own_set ALL.out.1 GS.out hlt' (p k)) (a := ⟨g', k, none⟩) (fun b o h _ => by have := GS.out.symm.trans h; simp at this; show b ≠ g'; omega) (.int .i64 (q k))
            have it3 := own_set (own_other ALL.out.2.1 (a := ⟨g, k, none⟩) (fun b o h _ => by have := GT.out.symm.trans h; simp at this; show b ≠ g; omega) (.int .i64 (p k))) GT.out hlt (q k)
            have kz : Kept (fun b => b ≠ g ∧ b ≠ g') wr ((wr.setCell ⟨g, k, none⟩ (.int .i64 (p k))).setCell ⟨g', k, none⟩ (.int .i64 (q k))) := ((Kept.refl _ _).setCell (by simp) _).setCell (by simp) _
            have hen3 : Ents ((wr.setCell ⟨g, k, none⟩ (.int .i64 (p k))).setCell ⟨g', k, none⟩ (.int .i64 (q k))) w.heap.size t.n p q := ⟨fun i hi => cell_kept kz ⟨(by show w.heap.size ≠ _; omega), (by show w.heap.size ≠ _; omega)⟩ (ALL.out.2.2.2.c0 i hi), fun i hi => cell_kept kz ⟨(by show w.heap.size ≠ _; omega), (by show w.heap.size ≠ _; omega)⟩ (ALL.out.2.2.2.c1 i hi), fun i => by simp only [World.frozen?_setCell]; exact ALL.out.2.2.2.fz i⟩
            have hen4 := hen3.on (by simp; omega) (new (same _) (.cells #[.int .i64 (p k), .int .i64 (q k)] 150))
            refine ⟨k + 1, by omega, by go_num, (is3.congr (fun i _ => mix_step k p a i)).on (Below.drew (new (same _) _)), (it3.congr (fun i _ => mix_step k q j i)).on (Below.drew (new (same _) _)), ?_, ⟨hen4.c0, hen4.c1, hen4.fz⟩, ?_⟩
            · exact (((ALL.out.2.2.1.setCell (x := ⟨g, k, none⟩) (.inl ⟨by omega, .inl ⟨0, GS.out⟩⟩) _).setCell (x := ⟨g', k, none⟩) (.inl ⟨by omega, .inr ⟨0, GT.out⟩⟩) _).alloc _).drew
            · simp; omega
          case measure => simp [intOf]; omega
        · obtain rfl : k = t.n := by omega
          go_wp2_with fail
          go_end0
          refine ⟨rfl, p, q, ALL.out.1.congr (fun i hi => by have := HN.out; simp [mix, show i < t.n by omega]), ALL.out.2.1.congr (fun i hi => by simp [mix, hi]), by rw [← HN.out]; exact SRT.out, ALL.out.2.2.1⟩

end Go.Proofs.Ytnodofbpogcheaa.Srt

/-
  A function in memory of the call's own: every row in a block of its own; what stays when one of them is written.
-/
namespace Go.Proofs.Ytnodofbpogcheaa.Own
open Go.RowKit View Rd Copy Srt

set_option linter.unusedVariables false

/-- The rows of a function: a block's instructions, what one of them takes, where it goes. -/
inductive Id where
  | row (j : Nat)
  | arg (j k : Nat)
  | int (j k : Nat)

def sl (F : FV) : Id → Sl
  | .row j => F.B j
  | .arg j k => (F.I j k).args
  | .int j k => (F.I j k).into

def has (F : FV) : Id → Prop
  | .row j => j < F.blk.n
  | .arg j k => j < F.blk.n ∧ k < (F.B j).n
  | .int j k => j < F.blk.n ∧ k < (F.B j).n

structure Own (base : Nat) (w : World) (F : FV) (at_ : Id → Nat) : Prop where
  inn : In w F
  adr : ∀ x, has F x → 0 < (sl F x).n → (sl F x).a = some ⟨at_ x, 0, none⟩
  ge : ∀ x, has F x → 0 < (sl F x).n → base ≤ at_ x
  lt : ∀ x, has F x → 0 < (sl F x).n → at_ x < w.heap.size
  fz : ∀ x, has F x → 0 < (sl F x).n → ∀ i, w.frozen? ⟨at_ x, i, none⟩ = false
  sep : ∀ x y, has F x → has F y → 0 < (sl F x).n → 0 < (sl F y).n → at_ x = at_ y → x = y
  par : ∀ x, has F x → 0 < (sl F x).n → ∀ b o, F.par.a = some ⟨b, o, none⟩ → 0 < F.par.n → b ≠ at_ x
  blk : ∀ x, has F x → 0 < (sl F x).n → ∀ b o, F.blk.a = some ⟨b, o, none⟩ → 0 < F.blk.n → b ≠ at_ x
  pm : Mine base w.heap.size w F.par
  bm : Mine base w.heap.size w F.blk

def blkOf (s : Sl) : Nat := match s.a with | some a => a.block | none => 0

theorem blkOf_eq {s : Sl} {g o : Nat} (h : s.a = some ⟨g, o, none⟩) : blkOf s = g := by unfold blkOf; rw [h]

def atOf (gB : Nat → Nat) (sa si : Nat → Nat → Sl) : Id → Nat
  | .row j => gB j
  | .arg j k => blkOf (sa j k)
  | .int j k => blkOf (si j k)

theorem own_copy {F : FV} {w' : World} {base G : Nat} {sp : Sl} {gB : Nat → Nat} {sa si : Nat → Nat → Sl} {h : Nat → Nat → Nat} {H : Nat → Nat} (hl : Light F)
    (hn : sp.n = F.par.n) (hp : Ints w' sp F.P) (mp : Mine base G w' sp) (r : BRows G F.blk.n F.blk.n w' F.B F.I F.A F.J gB sa si h H) (hb : base ≤ G) :
    Own base w' (twin F sp G gB sa si) (atOf gB sa si) ∧ Light (twin F sp G gB sa si) := by
  have hup := r.up
  have hlo := r.lo
  have hHb : ∀ j, j ≤ F.blk.n → G < H j := fun j hj => Nat.lt_of_lt_of_le hlo (mono_le hup hj (Nat.zero_le _))
  have hHs : ∀ j, j ≤ F.blk.n → H j ≤ w'.heap.size := fun j hj => Nat.le_trans (mono_le hup (Nat.le_refl _) hj) r.hi
  -- where each row lies
  have tw : ∀ j, j < F.blk.n → ∀ k, k < (F.B j).n → Copy.Twin (h j k) (h j (k + 1)) w' (sa j k) (si j k) (F.I j k) (F.A j k) (F.J j k) := fun j hj k hk => (r.rows j hj).tw k hk
  have hmon : ∀ j, j < F.blk.n → ∀ a b, a ≤ b → b ≤ (F.B j).n → h j a ≤ h j b := fun j hj a b hab hbn => mono_le (r.rows j hj).up hbn hab
  have argIn : ∀ j, j < F.blk.n → ∀ k, k < (F.B j).n → 0 < (sa j k).n → ∃ g, (sa j k).a = some ⟨g, 0, none⟩ ∧ blkOf (sa j k) = g ∧ h j k ≤ g ∧ g < h j (k + 1) ∧ ∀ i, w'.frozen? ⟨g, i, none⟩ = false := fun j hj k hk h0 => by
    obtain ⟨g, a1, a2, a3, a4⟩ := (tw j hj k hk).ma h0
    exact ⟨g, a1, blkOf_eq a1, a2, a3, a4⟩
  have intIn : ∀ j, j < F.blk.n → ∀ k, k < (F.B j).n → 0 < (si j k).n → ∃ g, (si j k).a = some ⟨g, 0, none⟩ ∧ blkOf (si j k) = g ∧ h j k ≤ g ∧ g < h j (k + 1) ∧ ∀ i, w'.frozen? ⟨g, i, none⟩ = false := fun j hj k hk h0 => by
    obtain ⟨g, a1, a2, a3, a4⟩ := (tw j hj k hk).mj h0
    exact ⟨g, a1, blkOf_eq a1, a2, a3, a4⟩
  have inn : In w' (twin F sp G gB sa si) := by
    refine ⟨hp, ⟨Nat.le_refl _, by have := hl.blk; show F.blk.n ≤ _; omega, fun e => by simp at e, fun h0 => ⟨G, 0, rfl, fun i hi => ?_⟩⟩, fun j hj => (r.rows j hj).inss (by have := hl.ins j hj; omega) (Nat.le_refl _), fun j hj k hk => (tw j hj k hk).args, fun j hj k hk => (tw j hj k hk).into⟩
    rw [Nat.zero_add, r.own.cellAt i (by simpa using hi)]
    simp only at hi
    simp [hi]
  have pos : ∀ x, has (twin F sp G gB sa si) x → 0 < (sl (twin F sp G gB sa si) x).n → ∃ j, j < F.blk.n ∧ (match x with | .row j' => j' = j | .arg j' _ => j' = j | .int j' _ => j' = j) ∧ H j ≤ atOf gB sa si x ∧ atOf gB sa si x < H (j + 1) ∧ (sl (twin F sp G gB sa si) x).a = some ⟨atOf gB sa si x, 0, none⟩ ∧ ∀ i, w'.frozen? ⟨atOf gB sa si x, i, none⟩ = false := by
    intro x hx h0
    cases x with
    | row j =>
      have hj : j < F.blk.n := hx
      refine ⟨j, hj, rfl, r.lows j hj, ?_, rfl, fun i => (r.rows j hj).own.frozenAt i⟩
      have := (r.rows j hj).le; have := r.tops j hj; show gB j < _; omega
    | arg j k =>
      obtain ⟨hj, hk⟩ : j < F.blk.n ∧ k < (F.B j).n := hx
      obtain ⟨g, a1, a2, a3, a4, a5⟩ := argIn j hj k hk h0
      have q1 := r.lows j hj; have q2 := (r.rows j hj).lo; have q3 := hmon j hj 0 k (Nat.zero_le _) (by omega); have q4 := hmon j hj (k + 1) (F.B j).n (by omega) (Nat.le_refl _); have q5 := r.tops j hj
      exact ⟨j, hj, rfl, by show H j ≤ blkOf (sa j k); omega, by show blkOf (sa j k) < _; omega, by show (sa j k).a = some ⟨blkOf (sa j k), 0, none⟩; rw [a2]; exact a1, by show ∀ i, w'.frozen? ⟨blkOf (sa j k), i, none⟩ = false; rw [a2]; exact a5⟩
    | int j k =>
      obtain ⟨hj, hk⟩ : j < F.blk.n ∧ k < (F.B j).n := hx
      obtain ⟨g, a1, a2, a3, a4, a5⟩ := intIn j hj k hk h0
      have q1 := r.lows j hj; have q2 := (r.rows j hj).lo; have q3 := hmon j hj 0 k (Nat.zero_le _) (by omega); have q4 := hmon j hj (k + 1) (F.B j).n (by omega) (Nat.le_refl _); have q5 := r.tops j hj
      exact ⟨j, hj, rfl, by show H j ≤ blkOf (si j k); omega, by show blkOf (si j k) < _; omega, by show (si j k).a = some ⟨blkOf (si j k), 0, none⟩; rw [a2]; exact a1, by show ∀ i, w'.frozen? ⟨blkOf (si j k), i, none⟩ = false; rw [a2]; exact a5⟩
  refine ⟨⟨inn, fun x hx h0 => ?_, fun x hx h0 => ?_, fun x hx h0 => ?_, fun x hx h0 => ?_, ?_, fun x hx h0 b o hb' hn' => ?_, fun x hx h0 b o hb' hn' => ?_, ?_, ?_⟩, ?_⟩
  · obtain ⟨j, _, _, _, _, h, _⟩ := pos x hx h0; exact h
  · obtain ⟨j, hj, _, h, _⟩ := pos x hx h0; have := hHb j (by omega); omega
  · obtain ⟨j, hj, _, _, h, _⟩ := pos x hx h0; have := hHs (j + 1) (by omega); omega
  · obtain ⟨j, _, _, _, _, _, h⟩ := pos x hx h0; exact h
  · intro x y hx hy h0 h0' e
    obtain ⟨j, hj, jx, p1, p2, _⟩ := pos x hx h0
    obtain ⟨j', hj', jy, p1', p2', _⟩ := pos y hy h0'
    have ej : j = j' := by
      rcases Nat.lt_trichotomy j j' with h' | h' | h'
      · have := mono_le hup (show j' ≤ F.blk.n by omega) (show j + 1 ≤ j' by omega); omega
      · exact h'
      · have := mono_le hup (show j ≤ F.blk.n by omega) (show j' + 1 ≤ j by omega); omega
    subst ej
    have q2 := (r.rows j hj).lo
    cases x with
    | row jx' =>
      simp only at jx; subst jx
      cases y with
      | row jy' => simp only at jy; subst jy; rfl
      | arg jy' k' =>
        simp only at jy; subst jy
        obtain ⟨_, hk'⟩ : _ ∧ k' < (F.B jy').n := hy
        obtain ⟨g, _, a2, a3, _⟩ := argIn jy' hj k' hk' h0'
        have := hmon jy' hj 0 k' (Nat.zero_le _) (by omega)
        have : gB jy' = blkOf (sa jy' k') := e
        omega
      | int jy' k' =>
        simp only at jy; subst jy
        obtain ⟨_, hk'⟩ : _ ∧ k' < (F.B jy').n := hy
        obtain ⟨g, _, a2, a3, _⟩ := intIn jy' hj k' hk' h0'
        have := hmon jy' hj 0 k' (Nat.zero_le _) (by omega)
        have : gB jy' = blkOf (si jy' k') := e
        omega
    | arg jx' k =>
      simp only at jx; subst jx
      obtain ⟨_, hk⟩ : _ ∧ k < (F.B jx').n := hx
      obtain ⟨g, b1, b2, b3, b4, _⟩ := argIn jx' hj k hk h0
      cases y with
      | row jy' =>
        simp only at jy; subst jy
        have := hmon jy' hj 0 k (Nat.zero_le _) (by omega)
        have : blkOf (sa jy' k) = gB jy' := e
        omega
      | arg jy' k' =>
        simp only at jy; subst jy
        obtain ⟨_, hk'⟩ : _ ∧ k' < (F.B jy').n := hy
        obtain ⟨g', a1, a2, a3, a4, _⟩ := argIn jy' hj k' hk' h0'
        have e' : blkOf (sa jy' k) = blkOf (sa jy' k') := e
        rcases Nat.lt_trichotomy k k' with h' | h' | h'
        · have := hmon jy' hj (k + 1) k' h' (by omega); omega
        · rw [h']
        · have := hmon jy' hj (k' + 1) k h' (by omega); omega
      | int jy' k' =>
        simp only at jy; subst jy
        obtain ⟨_, hk'⟩ : _ ∧ k' < (F.B jy').n := hy
        obtain ⟨g', a1, a2, a3, a4, _⟩ := intIn jy' hj k' hk' h0'
        have e' : blkOf (sa jy' k) = blkOf (si jy' k') := e
        exfalso
        rcases Nat.lt_trichotomy k k' with h' | h' | h'
        · have := hmon jy' hj (k + 1) k' h' (by omega); omega
        · subst h'
          have := (tw jy' hj k hk).ord g g' b1 a1 h0 h0'; omega
        · have := hmon jy' hj (k' + 1) k h' (by omega); omega
    | int jx' k =>
      simp only at jx; subst jx
      obtain ⟨_, hk⟩ : _ ∧ k < (F.B jx').n := hx
      obtain ⟨g, b1, b2, b3, b4, _⟩ := intIn jx' hj k hk h0
      cases y with
      | row jy' =>
        simp only at jy; subst jy
        have := hmon jy' hj 0 k (Nat.zero_le _) (by omega)
        have : blkOf (si jy' k) = gB jy' := e
        omega
      | arg jy' k' =>
        simp only at jy; subst jy
        obtain ⟨_, hk'⟩ : _ ∧ k' < (F.B jy').n := hy
        obtain ⟨g', a1, a2, a3, a4, _⟩ := argIn jy' hj k' hk' h0'
        have e' : blkOf (si jy' k) = blkOf (sa jy' k') := e
        exfalso
        rcases Nat.lt_trichotomy k k' with h' | h' | h'
        · have := hmon jy' hj (k + 1) k' h' (by omega); omega
        · subst h'
          have := (tw jy' hj k hk).ord g' g a1 b1 h0' h0; omega
        · have := hmon jy' hj (k' + 1) k h' (by omega); omega
      | int jy' k' =>
        simp only at jy; subst jy
        obtain ⟨_, hk'⟩ : _ ∧ k' < (F.B jy').n := hy
        obtain ⟨g', a1, a2, a3, a4, _⟩ := intIn jy' hj k' hk' h0'
        have e' : blkOf (si jy' k) = blkOf (si jy' k') := e
        rcases Nat.lt_trichotomy k k' with h' | h' | h'
        · have := hmon jy' hj (k + 1) k' h' (by omega); omega
        · rw [h']
        · have := hmon jy' hj (k' + 1) k h' (by omega); omega
  · obtain ⟨j, hj, _, h, _⟩ := pos x hx h0
    have := hHb j (by omega)
    have := (mp.ge b o hb' hn').2
    omega
  · obtain ⟨j, hj, _, h, _⟩ := pos x hx h0
    have := hHb j (by omega)
    simp at hb'
    omega
  · exact mp.wide (Nat.le_refl _) (by have := (r.own.lt G rfl).2; omega)
  · exact fun _ => ⟨G, rfl, hb, (r.own.lt G rfl).2, fun i => r.own.frozenAt i⟩
  · exact ⟨hl.all, hl.name, by show sp.n ≤ 8; rw [hn]; exact hl.par, hl.blk, hl.ins, fun j hj k hk => by show (sa j k).n ≤ 20; rw [(tw j hj k hk).an]; exact hl.args j hj k hk, fun j hj k hk => by show (si j k).n ≤ 20; rw [(tw j hj k hk).jn]; exact hl.into j hj k hk⟩

theorem Own.on {base : Nat} {w w' : World} {F : FV} {at_ : Id → Nat} (hb : Below w.heap.size w w') (h : Own base w F at_) : Own base w' F at_ :=
  ⟨h.inn.on hb, h.adr, h.ge, fun x hx h0 => Nat.lt_of_lt_of_le (h.lt x hx h0) hb.size, fun x hx h0 i => by rw [hb.frozen (by exact h.lt x hx h0)]; exact h.fz x hx h0 i, h.sep, h.par, h.blk, (h.pm.on hb (Nat.le_refl _)).wide (Nat.le_refl _) hb.size, (h.bm.on hb (Nat.le_refl _)).wide (Nat.le_refl _) hb.size⟩

theorem mine_turn {p : Nat → Prop} {base : Nat} {w w' : World} {s : Sl} (h : Mine base w.heap.size w s) (t : Turn p w w') : Mine base w'.heap.size w' s := fun h0 => by
  obtain ⟨g, h1, h2, h3, h4⟩ := h h0
  exact ⟨g, h1, h2, Nat.lt_of_lt_of_le h3 t.size, fun i => by rw [t.froz _ h3]; exact h4 i⟩

def upd (f : Nat → Nat → Nat → Int) (j k : Nat) (g : Nat → Int) : Nat → Nat → Nat → Int := fun j' k' => if j' = j ∧ k' = k then g else f j' k'

theorem Sls_kept {p : Nat → Prop} {w w' : World} {s : Sl} {f : Nat → Sl} (h : Sls w s f) (k : Kept p w w') (hp : ∀ b off, s.a = some ⟨b, off, none⟩ → 0 < s.n → p b) : Sls w' s f :=
  ⟨h.1, h.2.1, h.2.2.1, fun h0 => by
    obtain ⟨b, off, ha, hc⟩ := h.2.2.2 h0
    exact ⟨b, off, ha, fun i hi => cell_kept k (hp b off ha h0) (hc i hi)⟩⟩

theorem Inss_kept {p : Nat → Prop} {w w' : World} {s : Sl} {f : Nat → IV} (h : Inss w s f) (k : Kept p w w') (hp : ∀ b off, s.a = some ⟨b, off, none⟩ → 0 < s.n → p b) : Inss w' s f :=
  ⟨h.1, h.2.1, h.2.2.1, fun h0 => by
    obtain ⟨b, off, ha, hc⟩ := h.2.2.2 h0
    exact ⟨b, off, ha, fun i hi => (hc i hi).kept k (hp b off ha h0)⟩⟩

/-- A cell that can be read lies in a block that is there. -/
theorem Ints_lt {w : World} {s : Sl} {f : Nat → Int} (h : Ints w s f) : ∀ b off, s.a = some ⟨b, off, none⟩ → 0 < s.n → b < w.heap.size := fun b off ha h0 => by
  obtain ⟨b', off', ha', hc⟩ := h.2.2.2 h0
  have e := ha.symm.trans ha'
  simp at e
  obtain ⟨rfl, rfl⟩ := e
  exact World.block_lt_of_cell? _ _ (hc 0 h0)
theorem Sls_lt {w : World} {s : Sl} {f : Nat → Sl} (h : Sls w s f) : ∀ b off, s.a = some ⟨b, off, none⟩ → 0 < s.n → b < w.heap.size := fun b off ha h0 => by
  obtain ⟨b', off', ha', hc⟩ := h.2.2.2 h0
  have e := ha.symm.trans ha'
  simp at e
  obtain ⟨rfl, rfl⟩ := e
  exact World.block_lt_of_cell? _ _ (hc 0 h0)
theorem Inss_lt {w : World} {s : Sl} {f : Nat → IV} (h : Inss w s f) : ∀ b off, s.a = some ⟨b, off, none⟩ → 0 < s.n → b < w.heap.size := fun b off ha h0 => by
  obtain ⟨b', off', ha', hc⟩ := h.2.2.2 h0
  have e := ha.symm.trans ha'
  simp at e
  obtain ⟨rfl, rfl⟩ := e
  exact World.block_lt_of_cell? _ _ (hc 0 h0).c0

theorem adr_inj {s : Sl} {g b o : Nat} (h : s.a = some ⟨g, 0, none⟩) (h' : s.a = some ⟨b, o, none⟩) : b = g := by
  have e := h'.symm.trans h
  simp at e
  exact e.1

/-- The two rows of one instruction are written. -/
theorem Own.rows {base : Nat} {w w' : World} {F : FV} {at_ : Id → Nat} (h : Own base w F at_) {p : Nat → Prop} (ht : Turn p w w') {j k : Nat} (hj : j < F.blk.n) (hk : k < (F.B j).n)
    (hp : ∀ b, p b → (b = at_ (.arg j k) ∧ 0 < (F.I j k).args.n) ∨ (b = at_ (.int j k) ∧ 0 < (F.I j k).into.n)) {a' j' : Nat → Int} (ia : Ints w' (F.I j k).args a') (ij : Ints w' (F.I j k).into j') :
    Own base w' { F with A := upd F.A j k a', J := upd F.J j k j' } at_ := by
  have kp := ht.kept
  have ha : has F (.arg j k) := ⟨hj, hk⟩
  have hi : has F (.int j k) := ⟨hj, hk⟩
  have off : ∀ x, has F x → 0 < (sl F x).n → x ≠ .arg j k → x ≠ .int j k → ¬ p (at_ x) := fun x hx h0 n1 n2 hpx => by
    rcases hp _ hpx with ⟨e, h1⟩ | ⟨e, h1⟩
    · exact n1 (h.sep x _ hx ha h0 h1 e)
    · exact n2 (h.sep x _ hx hi h0 h1 e)
  refine ⟨⟨?_, ?_, fun j1 h1 => ?_, fun j1 h1 k1 h2 => ?_, fun j1 h1 k1 h2 => ?_⟩, h.adr, h.ge, fun x hx h0 => Nat.lt_of_lt_of_le (h.lt x hx h0) ht.size, fun x hx h0 i => by rw [ht.froz _ (by exact h.lt x hx h0)]; exact h.fz x hx h0 i, h.sep, h.par, h.blk, mine_turn h.pm ht, mine_turn h.bm ht⟩
  · refine h.inn.par.kept kp fun b off ha' h0 => ⟨Ints_lt h.inn.par b off ha' h0, fun hpb => ?_⟩
    rcases hp _ hpb with ⟨e, h1⟩ | ⟨e, h1⟩
    · exact h.par _ ha h1 b off ha' h0 e
    · exact h.par _ hi h1 b off ha' h0 e
  · refine Sls_kept h.inn.blk kp fun b off ha' h0 => ⟨Sls_lt h.inn.blk b off ha' h0, fun hpb => ?_⟩
    rcases hp _ hpb with ⟨e, h1⟩ | ⟨e, h1⟩
    · exact h.blk _ ha h1 b off ha' h0 e
    · exact h.blk _ hi h1 b off ha' h0 e
  · refine Inss_kept (h.inn.ins j1 h1) kp fun b o ha' h0 => ⟨Inss_lt (h.inn.ins j1 h1) b o ha' h0, ?_⟩
    rw [adr_inj (h.adr (.row j1) h1 h0) ha']
    exact off (.row j1) h1 h0 (by simp) (by simp)
  · show Ints w' (F.I j1 k1).args (upd F.A j k a' j1 k1)
    unfold upd
    by_cases e : j1 = j ∧ k1 = k
    · rw [if_pos e, e.1, e.2]; exact ia
    · rw [if_neg e]
      refine (h.inn.args j1 h1 k1 h2).kept kp fun b o ha' h0 => ⟨Ints_lt (h.inn.args j1 h1 k1 h2) b o ha' h0, ?_⟩
      rw [adr_inj (h.adr (.arg j1 k1) ⟨h1, h2⟩ h0) ha']
      exact off (.arg j1 k1) ⟨h1, h2⟩ h0 (by simpa using e) (by simp)
  · show Ints w' (F.I j1 k1).into (upd F.J j k j' j1 k1)
    unfold upd
    by_cases e : j1 = j ∧ k1 = k
    · rw [if_pos e, e.1, e.2]; exact ij
    · rw [if_neg e]
      refine (h.inn.into j1 h1 k1 h2).kept kp fun b o ha' h0 => ⟨Ints_lt (h.inn.into j1 h1 k1 h2) b o ha' h0, ?_⟩
      rw [adr_inj (h.adr (.int j1 k1) ⟨h1, h2⟩ h0) ha']
      exact off (.int j1 k1) ⟨h1, h2⟩ h0 (by simp) (by simpa using e)

/-- Nothing from base on has turned. -/
theorem Own.far {base : Nat} {w w' : World} {F : FV} {at_ : Id → Nat} (h : Own base w F at_) {p : Nat → Prop} (t : Turn p w w') (hp : ∀ b, p b → b < base) : Own base w' F at_ := by
  have kp := t.kept
  refine ⟨⟨h.inn.par.kept kp fun b o ha h0 => ?_, Sls_kept h.inn.blk kp fun b o ha h0 => ?_, fun j hj => Inss_kept (h.inn.ins j hj) kp fun b o ha h0 => ?_, fun j hj k hk => (h.inn.args j hj k hk).kept kp fun b o ha h0 => ?_, fun j hj k hk => (h.inn.into j hj k hk).kept kp fun b o ha h0 => ?_⟩, h.adr, h.ge, fun x hx h0 => Nat.lt_of_lt_of_le (h.lt x hx h0) t.size, fun x hx h0 i => by rw [t.froz _ (by exact h.lt x hx h0)]; exact h.fz x hx h0 i, h.sep, h.par, h.blk, mine_turn h.pm t, mine_turn h.bm t⟩
  · exact ⟨(h.pm.ge b o ha h0).2, fun e => by have := hp b e; have := (h.pm.ge b o ha h0).1; omega⟩
  · exact ⟨(h.bm.ge b o ha h0).2, fun e => by have := hp b e; have := (h.bm.ge b o ha h0).1; omega⟩
  · have e := adr_inj (h.adr (.row j) hj h0) ha
    exact ⟨by rw [e]; exact h.lt (.row j) hj h0, fun q => by have := hp b q; have := h.ge (.row j) hj h0; omega⟩
  · have e := adr_inj (h.adr (.arg j k) ⟨hj, hk⟩ h0) ha
    exact ⟨by rw [e]; exact h.lt (.arg j k) ⟨hj, hk⟩ h0, fun q => by have := hp b q; have := h.ge (.arg j k) ⟨hj, hk⟩ h0; omega⟩
  · have e := adr_inj (h.adr (.int j k) ⟨hj, hk⟩ h0) ha
    exact ⟨by rw [e]; exact h.lt (.int j k) ⟨hj, hk⟩ h0, fun q => by have := hp b q; have := h.ge (.int j k) ⟨hj, hk⟩ h0; omega⟩

theorem Own.mine {base : Nat} {w : World} {F : FV} {at_ : Id → Nat} (h : Own base w F at_) (x : Id) (hx : has F x) : Mine base w.heap.size w (sl F x) := fun h0 =>
  ⟨at_ x, h.adr x hx h0, h.ge x hx h0, h.lt x hx h0, h.fz x hx h0⟩

end Go.Proofs.Ytnodofbpogcheaa.Own

/-
  ir.sortPhis: each Phi's entries in order.
-/
namespace Go.Proofs.Ytnodofbpogcheaa.Own
open Go.RowKit View Rd Copy Srt

set_option linter.unusedVariables false

/-- What has become of an instruction's rows: in order if it is a Phi whose rows are as many. -/
def Put (v : IV) (a j a' j' : Nat → Int) : Prop :=
  if v.op = 26 ∧ v.args.n = v.into.n then StSort a j a' j' v.args.n else a' = a ∧ j' = j

/-- Done up to block b's instruction t, the others as they were. -/
def Upto (F : FV) (b t : Nat) (A J : Nat → Nat → Nat → Int) : Prop :=
  ∀ j, j < F.blk.n → ∀ k, k < (F.B j).n → if j < b ∨ j = b ∧ k < t then Put (F.I j k) (F.A j k) (F.J j k) (A j k) (J j k) else A j k = F.A j k ∧ J j k = F.J j k

theorem upd_same (f : Nat → Nat → Nat → Int) (j k : Nat) (g : Nat → Int) : upd f j k g j k = g := by simp [upd]
theorem upd_other (f : Nat → Nat → Nat → Int) {j k j' k' : Nat} (g : Nat → Int) (h : ¬ (j' = j ∧ k' = k)) : upd f j k g j' k' = f j' k' := by simp only [upd, if_neg h]

theorem Upto.start (F : FV) : Upto F 0 0 F.A F.J := fun j hj k hk => by simp

theorem Upto.skip {F : FV} {b t : Nat} {A J : Nat → Nat → Nat → Int} (h : Upto F b t A J) (hb : b < F.blk.n) (ht : t < (F.B b).n) (hp : Put (F.I b t) (F.A b t) (F.J b t) (F.A b t) (F.J b t)) : Upto F b (t + 1) A J := fun j hj k hk => by
  have := h j hj k hk
  by_cases e : j = b ∧ k = t
  · obtain ⟨rfl, rfl⟩ := e
    rw [if_neg (by omega)] at this
    rw [if_pos (by omega), this.1, this.2]; exact hp
  · by_cases e2 : j < b ∨ j = b ∧ k < t
    · rw [if_pos e2] at this; rw [if_pos (by omega)]; exact this
    · rw [if_neg e2] at this; rw [if_neg (by omega)]; exact this

theorem Upto.put {F : FV} {b t : Nat} {A J : Nat → Nat → Nat → Int} (h : Upto F b t A J) (hb : b < F.blk.n) (ht : t < (F.B b).n) {a' j' : Nat → Int} (hp : Put (F.I b t) (F.A b t) (F.J b t) a' j') : Upto F b (t + 1) (upd A b t a') (upd J b t j') := fun j hj k hk => by
  have := h j hj k hk
  by_cases e : j = b ∧ k = t
  · obtain ⟨rfl, rfl⟩ := e
    rw [if_pos (by omega), upd_same, upd_same]; exact hp
  · rw [upd_other _ _ e, upd_other _ _ e]
    by_cases e2 : j < b ∨ j = b ∧ k < t
    · rw [if_pos e2] at this; rw [if_pos (by omega)]; exact this
    · rw [if_neg e2] at this; rw [if_neg (by omega)]; exact this

theorem Upto.next {F : FV} {b : Nat} {A J : Nat → Nat → Nat → Int} (h : Upto F b (F.B b).n A J) : Upto F (b + 1) 0 A J := fun j hj k hk => by
  have := h j hj k hk
  by_cases e2 : j < b ∨ j = b ∧ k < (F.B b).n
  · rw [if_pos e2] at this; rw [if_pos (by omega)]; exact this
  · rw [if_neg e2] at this
    rw [if_neg (fun h => ?_)]
    · exact this
    · rcases h with h | h
      · rcases Nat.lt_or_eq_of_le (Nat.le_of_lt_succ h) with h' | rfl
        · exact e2 (.inl h')
        · exact e2 (.inr ⟨rfl, hk⟩)
      · omega

/-- The blocks of a function's rows. -/
def rowsOf (F : FV) (at_ : Id → Nat) (b : Nat) : Prop := ∃ x, has F x ∧ 0 < (sl F x).n ∧ b = at_ x

/-- What sortPhis leaves. -/
def Phis (base : Nat) (F : FV) (at_ : Id → Nat) (w : World) (e : Ending) (w' : World) : Prop :=
  e = .returned (.tuple #[]) ∧ ∃ A J, Own base w' { F with A := A, J := J } at_ ∧ Upto F F.blk.n 0 A J ∧ Turn (rowsOf F at_) w w'

set_option maxHeartbeats 1000000 in
theorem sortPhis_any (base : Nat) (F : FV) (at_ : Id → Nat) (w : World) (h : Own base w F at_) (hl : Light F) :
    Calls Try.prog 57 #[F.val] w fun e w' => Phis base F at_ w e w' := by
  have H := hid h
  have HL := hid hl
  clear h hl
  go_enter Try.func57, Try.ntmps57
  go_wp2_with fail
  go_loopw [9] (fun i wr => ∃ b : Nat, b ≤ F.blk.n ∧ i = .int .i64 b ∧ ∃ A J, Own base wr { F with A := A, J := J } at_ ∧ Upto F b 0 A J ∧ Turn (rowsOf F at_) w wr) (fun i _ => F.blk.n - (intOf i).toNat)
  case atStart => exact ⟨0, Nat.zero_le _, rfl, F.A, F.J, H.out.on (new (same _) _), Upto.start F, Turn.of_below (new (same _) _)⟩
  case round =>
    obtain ⟨b, hb, rfl, A, J, ho, hu, ht⟩ := hrel
    have g4 := HL.out.blk
    by_cases hlt : b < F.blk.n
    · have g5 := HL.out.ins b hlt
      obtain ⟨bb, oo, hix, hck⟩ := ho.inn.blk.at hlt
      have HO := hid (And.intro ho (And.intro hu ht))
      clear ho hu ht
      go_wp2_with fail
      go_loopw [16] (fun i wx => ∃ t : Nat, t ≤ (F.B b).n ∧ i = .int .i64 t ∧ ∃ A J, Own base wx { F with A := A, J := J } at_ ∧ Upto F b t A J ∧ Turn (rowsOf F at_) w wx) (fun i _ => (F.B b).n - (intOf i).toNat)
      case atStart => exact ⟨0, Nat.zero_le _, rfl, A, J, HO.out.1.on (new (same _) _), HO.out.2.1, HO.out.2.2.below (new (same _) _)⟩
      case round =>
        clear HO
        obtain ⟨t, ht0, rfl, A1, J1, ho, hu, ht⟩ := hrel
        by_cases htl : t < (F.B b).n
        · obtain ⟨ib, io, hiy, c0, c1, c2, c3, c4, c5, c6⟩ := (ho.inn.ins b hlt).at htl
          have HO := hid (And.intro ho (And.intro hu ht))
          clear ho hu ht
          by_cases hop : (F.I b t).op = 26
          · have d0 : ((F.I b t).op == 26) = true := by simp [hop]
            have HP := hid hop
            clear hop
            by_cases hnn : (F.I b t).args.n = (F.I b t).into.n
            · have d1 : (((F.I b t).args.n : Int) == ((F.I b t).into.n : Int)) = true := by simp [hnn]
              have HNN := hid hnn
              clear hnn
              go_wp2_with fail
              have o1 := HO.out.1.on (new (same wr) (.cells (F.I b t).cells 39))
              refine (sortEntries_any (F.I b t).args (F.I b t).into (A1 b t) (J1 b t) base _ _ (o1.inn.args b hlt t htl) (o1.inn.into b hlt t htl) (o1.mine (.arg b t) ⟨hlt, htl⟩) (o1.mine (.int b t) ⟨hlt, htl⟩) (Nat.le_refl _) ?_ HNN.out.symm (HL.out.args b hlt t htl)).mono ?_
              · intro g g' hg hg' h0 e
                have h0' : 0 < (F.I b t).into.n := by have := HNN.out; omega
                have e1 := adr_inj (o1.adr (.arg b t) ⟨hlt, htl⟩ h0) hg
                have e2 := adr_inj (o1.adr (.int b t) ⟨hlt, htl⟩ h0') hg'
                have := o1.sep (.arg b t) (.int b t) ⟨hlt, htl⟩ ⟨hlt, htl⟩ h0 h0' (by rw [← e1, ← e2, e])
                cases this
              rintro e w2 ⟨rfl, a', j', ia, ij, hst, htu⟩
              have hA := HO.out.2.1 b hlt t htl
              rw [if_neg (by omega)] at hA
              have hput : Put (F.I b t) (F.A b t) (F.J b t) a' j' := by
                unfold Put; rw [if_pos ⟨HP.out, HNN.out⟩, ← hA.1, ← hA.2]; exact hst
              have hp' : ∀ x, (0 < (F.I b t).args.n ∧ ((∃ o, (F.I b t).args.a = some ⟨x, o, none⟩) ∨ ∃ o, (F.I b t).into.a = some ⟨x, o, none⟩)) → (x = at_ (.arg b t) ∧ 0 < (F.I b t).args.n) ∨ (x = at_ (.int b t) ∧ 0 < (F.I b t).into.n) := fun x hx => by
                have h0' : 0 < (F.I b t).into.n := by have := HNN.out; omega
                rcases hx.2 with ⟨o, h⟩ | ⟨o, h⟩
                · exact .inl ⟨adr_inj (o1.adr (.arg b t) ⟨hlt, htl⟩ hx.1) h, hx.1⟩
                · exact .inr ⟨adr_inj (o1.adr (.int b t) ⟨hlt, htl⟩ h0') h, h0'⟩
              have o2 := o1.rows htu hlt htl hp' ia ij
              have t2 : Turn (rowsOf F at_) w w2 := (HO.out.2.2.below (new (same _) _)).trans (htu.wide fun x hx => by
                rcases hp' x hx with ⟨rfl, h0⟩ | ⟨rfl, h0⟩
                · exact ⟨.arg b t, ⟨hlt, htl⟩, h0, rfl⟩
                · exact ⟨.int b t, ⟨hlt, htl⟩, h0, rfl⟩)
              have FIN := hid (And.intro o2 (And.intro (HO.out.2.1.put hlt htl hput) t2))
              clear o1 o2 t2 hput hA ia ij hst htu hp'
              go_wp2_with fail
              go_round
              case rel => exact ⟨t + 1, by omega, by go_num, _, _, FIN.out.1, FIN.out.2.1, FIN.out.2.2⟩
              case measure => simp [intOf]; omega
            · have d1 : (((F.I b t).args.n : Int) == ((F.I b t).into.n : Int)) = false := by simp; omega
              go_wp2_with fail
              go_round
              case rel => exact ⟨t + 1, by omega, by go_num, A1, J1, HO.out.1.on (new (same _) _), HO.out.2.1.skip hlt htl (by unfold Put; rw [if_neg (fun h => hnn h.2)]; exact ⟨rfl, rfl⟩), HO.out.2.2.below (new (same _) _)⟩
              case measure => simp [intOf]; omega
          · have d0 : ((F.I b t).op == 26) = false := by simp [hop]
            go_wp2_with fail
            go_round
            case rel => exact ⟨t + 1, by omega, by go_num, A1, J1, HO.out.1.on (new (same _) _), HO.out.2.1.skip hlt htl (by unfold Put; rw [if_neg (fun h => hop h.1)]; exact ⟨rfl, rfl⟩), HO.out.2.2.below (new (same _) _)⟩
            case measure => simp [intOf]; omega
        · obtain rfl : t = (F.B b).n := by omega
          have HO := hid (And.intro ho (And.intro hu ht))
          clear ho hu ht
          go_wp2_with fail
          go_round
          case rel => exact ⟨b + 1, by omega, by go_num, A1, J1, HO.out.1, HO.out.2.1.next, HO.out.2.2⟩
          case measure => simp [intOf]; omega
    · obtain rfl : b = F.blk.n := by omega
      have HO := hid (And.intro ho (And.intro hu ht))
      clear ho hu ht
      go_wp2_with fail
      go_end0
      exact ⟨rfl, A, J, HO.out.1, HO.out.2.1, HO.out.2.2⟩

end Go.Proofs.Ytnodofbpogcheaa.Own

/-
  The numbers of a function's values: the map that ir.newNumbers makes.
-/
namespace Go.Proofs.Ytnodofbpogcheaa.Num
open Go.RowKit View Rd Copy Srt Own
open Go.Maps (Keyed int_keyed keyOf_int_mk)

set_option linter.unusedVariables false

def W64 (n : Int) : Prop := -9223372036854775808 ≤ n ∧ n ≤ 9223372036854775807

theorem underlying3 : Try.prog.underlying 3 = some (.int .i64) := by kernel_rfl

theorem underlying61 : Try.prog.underlying 61 = some (.map 3 3) := by kernel_rfl

theorem law3 : Keyed Try.prog 3 := int_keyed underlying3

theorem zero3 (w : World) : (zeroValue 3).run Try.prog w = .ok (.int .i64 0) w := by kernel_rfl

theorem wf64 {n : Int} (h : W64 n) : (Lit.int .i64 n).wf = true := WalkArith.wf_i64 (by have := h.1; have := h.2; omega)

/-- Block B is a map of at most n entries that is m. -/
def MapIs (w : World) (B n : Nat) (m : Int → Option Int) : Prop :=
  ∃ D : DataW Unit, w.ownsMap Try.prog 3 (plainElem Try.prog 3) B n D ∧ ∀ v, Maps.has D (.int .i64 v) = (m v).isSome ∧ D.atKey (.int .i64 v) (.lit (.int .i64 0)) = .lit (.int .i64 ((m v).getD 0))

theorem MapIs.at_block {w w' : World} {B n : Nat} {m : Int → Option Int} (h : MapIs w B n m) (e : w'.heap[B]? = w.heap[B]?) : MapIs w' B n m := by
  obtain ⟨D, ⟨es, clock, hb, hr⟩, hv⟩ := h
  exact ⟨D, ⟨es, clock, by rw [e]; exact hb, hr⟩, hv⟩

theorem MapIs.lt {w : World} {B n : Nat} {m : Int → Option Int} (h : MapIs w B n m) : B < w.heap.size := by
  obtain ⟨D, ⟨es, clock, hb, hr⟩, hv⟩ := h
  exact (Array.getElem?_eq_some_iff.1 hb).1

theorem MapIs.on {w w' : World} {B n : Nat} {m : Int → Option Int} (hb : Below w.heap.size w w') (h : MapIs w B n m) : MapIs w' B n m := h.at_block (hb.block B h.lt)

theorem MapIs.congr {w : World} {B n n' : Nat} {m m' : Int → Option Int} (h : MapIs w B n m) (e : ∀ v, m v = m' v) (hn : n ≤ n') : MapIs w B n' m' := by
  obtain ⟨D, ⟨es, clock, hb, hr, hs, hd⟩, hv⟩ := h
  exact ⟨D, ⟨es, clock, hb, hr, Nat.le_trans hs hn, hd⟩, fun v => by rw [← e v]; exact hv v⟩

theorem MapIs.made (w : World) : MapIs (w.alloc (.map #[] 0)) w.heap.size 0 (fun _ => none) :=
  ⟨.map [], World.ownsMap_made _ _ _ _, fun v => ⟨rfl, rfl⟩⟩

theorem MapIs.look {w : World} {B n : Nat} {m : Int → Option Int} (h : MapIs w B n m) {v : Int} (hv : W64 v) : (Instr.lookup 61 (.map (some B)) (.int .i64 v) false).run Try.prog w = .ok (.int .i64 ((m v).getD 0)) w := by
  obtain ⟨D, ho, hm⟩ := h
  obtain ⟨c, hrun, hat, _⟩ := ho.lookup_int law3 underlying61 underlying3 (zero3 w) (keyOf_int_mk underlying3 (wf64 hv))
  rw [(hm v).2] at hat
  simp at hat
  rw [hat]; exact hrun

theorem MapIs.look_ok {w : World} {B n : Nat} {m : Int → Option Int} (h : MapIs w B n m) {v : Int} (hv : W64 v) : (Instr.lookup 61 (.map (some B)) (.int .i64 v) true).run Try.prog w = .ok (.tuple #[.int .i64 ((m v).getD 0), .bool (m v).isSome]) w := by
  obtain ⟨D, ho, hm⟩ := h
  obtain ⟨x, ps, hrun, hat⟩ := ho.look_ok law3 underlying61 (zero3 w) (plainElem_int underlying3 (by decide)) (keyOf_int_mk underlying3 (wf64 hv))
  obtain ⟨c, rfl, hc, _⟩ := plainElem_int_inv underlying3 hat
  have hc1 := congrArg Prod.fst hc
  simp only at hc1
  rw [(hm v).2] at hc1
  simp at hc1
  rw [hrun, (hm v).1, hc1]

theorem wpList_put {ops : Array Oper} {rest : List Oper} {o : Oper} {a : Act} {Q : Exit → Act → World → Prop} {w : World} (hg : o.guard = none) (mo x y : Operand) (hop : o.op = Op.mapUpdate 61 mo x y)
    (B n : Nat) (m : Int → Option Int) (hm : a.eval mo = .map (some B)) (h : MapIs w B n m) (hn : n ≤ 1000000) (v u : Int) (hx : a.eval x = .int .i64 v) (hy : a.eval y = .int .i64 u) (hv : W64 v) (hu : W64 u)
    (hK : ∀ w', MapIs w' B (n + 1) (fun z => if z = v then some u else m z) → w.grownBy w' (some B) → wpList Try.prog ops Q rest (a.put o.dst undef) w') :
    wpList Try.prog ops Q (o :: rest) a w := by
  obtain ⟨D, ho, hD⟩ := h
  refine wpList_mapUpdate_own w hg mo x y 61 hop 3 3 law3 underlying61 _ B n D hm ho (by unfold maxLen; omega) _ _ _ hx hy (keyOf_int_mk underlying3 (wf64 hv)) _ [] (plainElem_int underlying3 (wf64 hu)) ?_
  intro w' hown hgr
  refine hK w' ⟨_, hown, fun z => ?_⟩ hgr
  have hmap : Maps.IsMap D := by obtain ⟨_, _, _, _, _, e⟩ := ho; exact ⟨_, e⟩
  by_cases e : z = v
  · subst e
    dsimp only
    rw [if_pos rfl]
    have hk : WideAt.IsKeyLit (.int .i64 z) := by simp [WideAt.IsKeyLit]
    exact ⟨Maps.has_put_same hmap hk _, Maps.atKey_put_same hmap hk _ _⟩
  · have hne : (Lit.int .i64 z) ≠ .int .i64 v := fun h => e (by simpa using h)
    dsimp only
    rw [if_neg e, Maps.has_put_other hne, Maps.atKey_put_other hne]
    exact hD z

/-- The parameters' own numbers. -/
def m0 (np : Nat) (v : Int) : Option Int := if 1 ≤ v ∧ v ≤ np then some v else none

def rowMap (m : Int → Option Int) (l : Nat) (f : Nat → IV) : Nat → Int → Option Int
  | 0 => m
  | k + 1 => fun v => if (f k).ty ≠ 0 ∧ rowMap m l f k (f k).to = none ∧ v = (f k).to then some ((l : Int) + giv f (k + 1)) else rowMap m l f k v

theorem rowMap_no {m : Int → Option Int} {l : Nat} {f : Nat → IV} {k : Nat} {v : Int} (h : ¬ ((f k).ty ≠ 0 ∧ rowMap m l f k (f k).to = none ∧ v = (f k).to)) : rowMap m l f (k + 1) v = rowMap m l f k v := if_neg h
theorem rowMap_yes {m : Int → Option Int} {l : Nat} {f : Nat → IV} {k : Nat} {v : Int} (h1 : (f k).ty ≠ 0) (h2 : rowMap m l f k (f k).to = none) (h3 : v = (f k).to) : rowMap m l f (k + 1) v = some ((l : Int) + giv f (k + 1)) := if_pos ⟨h1, h2, h3⟩

abbrev lastOf (F : FV) (j : Nat) : Nat := F.par.n + cnt (fun j => giv (F.I j) (F.B j).n) j

def allMap (F : FV) : Nat → Int → Option Int
  | 0 => m0 F.par.n
  | j + 1 => rowMap (allMap F j) (lastOf F j) (F.I j) (F.B j).n

/-- The numbers fit. -/
structure Rng (F : FV) : Prop where
  to : ∀ j, j < F.blk.n → ∀ k, k < (F.B j).n → W64 (F.I j k).to
  args : ∀ j, j < F.blk.n → ∀ k, k < (F.B j).n → ∀ i, i < (F.I j k).args.n → W64 (F.A j k i)

def Numbers (F : FV) (w : World) (e : Ending) (w' : World) : Prop :=
  ∃ n, e = .returned (.map (some (w.heap.size + 1))) ∧ MapIs w' (w.heap.size + 1) n (allMap F F.blk.n) ∧ Below w.heap.size w w'

set_option maxHeartbeats 1000000 in
theorem newNumbers_any (F : FV) (w : World) (hF : In w F) (hl : Light F) (hr : Rng F) :
    Calls Try.prog 97 #[F.val] w fun e w' => Numbers F w e w' := by
  have hmm := @run_makeMap Try.prog
  have HF := hid hF
  have HL := hid hl
  have HR := hid hr
  have gp := hl.par
  have gb := hl.blk
  clear hF hl hr
  go_enter Try.func97, Try.ntmps97
  go_wp2_with fail
  clear hmm
  go_loopw [16] (fun i wr => ∃ k : Nat, k ≤ F.par.n ∧ i = .int .i64 k ∧ MapIs wr (w.heap.size + 1) k (m0 k) ∧ FuncAt wr w.heap.size F ∧ Below w.heap.size w wr) (fun i _ => F.par.n - (intOf i).toNat)
  case atStart => exact ⟨0, Nat.zero_le _, rfl, by have := MapIs.made (w.alloc (.cells (fcells F) 33)); simp only [World.size_alloc] at this; exact this.congr (fun v => by unfold m0; rw [if_neg (by omega)]) (Nat.le_refl _), (FuncAt.alloc w F).on (new (same _) _), new (new (same w) _) _⟩
  case round =>
    obtain ⟨k, hk, rfl, hm, hf, hb⟩ := hrel
    have HM := hid hm
    have HFA := hid hf
    clear hm hf
    by_cases hlt : k < F.par.n
    · go_wp2_with (at_mapUpdate; refine wpList_put rfl (.tmp 19) (.tmp 21) (.tmp 23) rfl (w.heap.size + 1) k _ rfl HM.out (by omega) ((k : Int) + 1) ((k : Int) + 1) rfl rfl ⟨by omega, by omega⟩ ⟨by omega, by omega⟩ ?_; intro w2 hm2 hg2)
      have FIN := hid (And.intro hm2 hg2)
      clear hm2 hg2
      go_wp2_with fail
      go_round
      case rel =>
        refine ⟨k + 1, by omega, by go_num, FIN.out.1.congr (fun v => ?_) (Nat.le_refl _), HFA.out.kept (kept_of_grown FIN.out.2) ⟨by omega, ?_⟩, hb.grown FIN.out.2 hb.size (fun k hk => by cases hk; omega)⟩
        · unfold m0
          by_cases e : v = (k : Int) + 1
          · rw [if_pos e, if_pos (by omega), e]
          · rw [if_neg e]
            by_cases e2 : 1 ≤ v ∧ v ≤ k
            · rw [if_pos e2, if_pos (by omega)]
            · rw [if_neg e2, if_neg (by omega)]
        · exact World.block_lt_of_cell? _ _ HFA.out.c0
      case measure => simp [intOf]; omega
    · obtain rfl : k = F.par.n := by omega
      obtain ⟨c0, c1, c2, c3, c4⟩ := HFA.out
      have GG : Hid (∀ j, j ≤ F.blk.n → cnt (fun j => giv (F.I j) (F.B j).n) j ≤ j * 400) := fun j hj => cnt_le (fun i hi => Nat.le_trans (giv_le _ _) (HL.out.ins i (by omega)))
      go_wp2_with fail
      go_loopw [5, 31] (fun l i wr => ∃ j : Nat, j ≤ F.blk.n ∧ i = .int .i64 j ∧ l = .int .i64 (lastOf F j) ∧ (∃ n, n ≤ lastOf F j ∧ MapIs wr (w.heap.size + 1) n (allMap F j)) ∧ Below w.heap.size w wr) (fun _ i _ => F.blk.n - (intOf i).toNat)
      case atStart => exact ⟨0, Nat.zero_le _, rfl, by simp [lastOf, cnt], ⟨F.par.n, by simp [lastOf, cnt], HM.out⟩, hb⟩
      case round =>
        clear HM HFA hb c0 c1 c2 c3 c4 hlt
        obtain ⟨j, hj, rfl, rfl, ⟨n, hn, hm⟩, hb⟩ := hrel
        have HM := hid hm
        clear hm
        have g1 := GG.out j hj
        by_cases hlt : j < F.blk.n
        · obtain ⟨bb, oo, hix, hck⟩ := (HF.out.blk.on hb).at hlt
          have g5 := HL.out.ins j hlt
          go_wp2_with fail
          go_loopw [5, 38] (fun l i wx => ∃ t : Nat, t ≤ (F.B j).n ∧ i = .int .i64 t ∧ l = .int .i64 ((lastOf F j + giv (F.I j) t : Nat) : Int) ∧ (∃ n, n ≤ lastOf F j + giv (F.I j) t ∧ MapIs wx (w.heap.size + 1) n (rowMap (allMap F j) (lastOf F j) (F.I j) t)) ∧ Below w.heap.size w wx) (fun _ i _ => (F.B j).n - (intOf i).toNat)
          case atStart => exact ⟨0, Nat.zero_le _, rfl, by simp [giv], ⟨n, by simp [giv]; exact hn, HM.out.on (new (same _) _)⟩, new hb _⟩
          case round =>
            clear HM hn n hb hck
            obtain ⟨t, ht, rfl, rfl, ⟨n, hn, hm⟩, hb⟩ := hrel
            have HM := hid hm
            clear hm
            have g6 := giv_le (F.I j) t
            obtain ⟨L, hL⟩ : ∃ L, lastOf F j + giv (F.I j) t = L := ⟨_, rfl⟩
            rw [hL] at hn ⊢
            have hLb : L ≤ 30000 := by
              have : lastOf F j = F.par.n + cnt (fun j => giv (F.I j) (F.B j).n) j := rfl
              omega
            have HLL := hid hL
            clear hL
            by_cases htl : t < (F.B j).n
            · obtain ⟨ib, io, hiy, c0, c1, c2, c3, c4, c5, c6⟩ := ((HF.out.ins j hlt).on hb).at htl
              go_wp2_with fail
              refine (gives_any (F.I j t) _).mono ?_
              rintro e w2 ⟨rfl, hb2⟩
              have hb3 := more (new hb _) hb2
              have HM2 := hid (MapIs.on hb2 (HM.out.on (new (same _) (.cells (F.I j t).cells 39))))
              have d2 : w2.cell? ⟨wr.heap.size, 2, none⟩ = some (.int .i64 (F.I j t).to) := by have := ((InsAt.alloc wr (F.I j t)).on hb2).c2; simpa using this
              have hto := HR.out.to j hlt t htl
              clear HM c0 c1 c2 c3 c4 c5 c6 hb2
              by_cases hty : (F.I j t).ty = 0
              · have t1 : ((F.I j t).ty != 0) = false := by simp [hty]
                go_wp2_with fail
                go_round
                case rel => exact ⟨t + 1, by omega, by go_num, by rw [← HLL.out]; simp [giv, hty], ⟨n, by rw [← HLL.out] at hn; simp [giv, hty]; omega, HM2.out.congr (fun v => (rowMap_no (fun h => h.1 hty)).symm) (Nat.le_refl _)⟩, hb3⟩
                case measure => simp [intOf]; omega
              · have t1 : ((F.I j t).ty != 0) = true := by simp [hty]
                have HTY := hid hty
                clear hty
                have hlk := HM2.out.look_ok hto
                obtain ⟨mv, hmv⟩ : ∃ mv, rowMap (allMap F j) (lastOf F j) (F.I j) t (F.I j t).to = mv := ⟨_, rfl⟩
                rw [hmv] at hlk
                cases mv with
                | some c =>
                  simp only [Option.isSome_some, Option.getD_some] at hlk
                  have HMV := hid hmv
                  clear hmv
                  go_wp2_with fail
                  go_round
                  case rel => exact ⟨t + 1, by omega, by go_num, by rw [← HLL.out]; simp [giv, HTY.out]; try omega, ⟨n, by rw [← HLL.out] at hn; simp [giv, HTY.out]; omega, HM2.out.congr (fun v => (rowMap_no (fun h => by rw [HMV.out] at h; simp at h)).symm) (Nat.le_refl _)⟩, hb3⟩
                  case measure => simp [intOf]; omega
                | none =>
                  simp only [Option.isSome_none, Option.getD_none] at hlk
                  have HMV := hid hmv
                  clear hmv
                  go_wp2_with (at_mapUpdate; refine wpList_put rfl (.tmp 56) (.tmp 58) (.tmp 59) rfl (w.heap.size + 1) n _ rfl HM2.out (by omega) (F.I j t).to ((L : Int) + 1) rfl rfl hto ⟨by omega, by omega⟩ ?_; intro w3 hm3 hg3)
                  have FIN := hid (And.intro hm3 hg3)
                  clear hm3 hg3
                  go_round
                  case rel =>
                    have eg : giv (F.I j) (t + 1) = giv (F.I j) t + 1 := by simp [giv, HTY.out]
                    refine ⟨t + 1, by omega, by go_num, by rw [eg, ← HLL.out]; simp; try omega, ⟨n + 1, by rw [eg]; have := HLL.out; omega, FIN.out.1.congr (fun v => ?_) (Nat.le_refl _)⟩, hb3.grown FIN.out.2 hb3.size (fun k hk => by cases hk; omega)⟩
                    by_cases e : v = (F.I j t).to
                    · rw [if_pos e, rowMap_yes HTY.out HMV.out e, eg, ← HLL.out]; simp; try omega
                    · rw [if_neg e, rowMap_no (fun h => e h.2.2)]
                  case measure => simp [intOf]; omega
            · obtain rfl : t = (F.B j).n := by omega
              go_wp2_with fail
              go_round
              case rel => exact ⟨j + 1, by omega, by go_num, by rw [← HLL.out]; simp [lastOf, cnt, Nat.add_assoc], ⟨n, by rw [← HLL.out] at hn; simp only [lastOf, cnt] at hn ⊢; omega, HM.out⟩, hb⟩
              case measure => simp [intOf]; omega
        · obtain rfl : j = F.blk.n := by omega
          go_wp2_with fail
          go_ret
          exact ⟨n, rfl, HM.out, hb⟩

end Go.Proofs.Ytnodofbpogcheaa.Num

/-
  What a function that comes in as an argument is in memory.
-/
namespace Go.Proofs.Ytnodofbpogcheaa.Opn
open Go.RowKit Go.Deep View Rd Num

set_option linter.unusedVariables false

variable {H : Type} {enc : TypeId × Value → H} {w : World}

noncomputable abbrev rd (enc : TypeId × Value → H) (w : World) (fuel t : Nat) (cs : List Value) : Option (DataW H × List MemPlace) := DataW.trod enc Try.prog w 0 (fun _ => true) true fuel t cs

/-- All that it weighs is within reach. -/
def Lgt (t : Nat) (d : DataW H) : Prop := ∀ n ∈ d.weights Try.prog t, n ≤ reachBytes

theorem weightsAll_mem {P : Program} {e : TypeId} : ∀ {l : List (DataW H)} {d : DataW H}, d ∈ l → ∀ n ∈ d.weights P e, n ∈ DataW.weightsAll P e l
  | x :: l, d, h, n, hn => by
    rw [DataW.weightsAll, List.mem_append]
    rcases List.mem_cons.1 h with rfl | h
    · exact .inl hn
    · exact .inr (weightsAll_mem h n hn)

theorem open_row {T e z by_ fuel : Nat} {cs : List Value} {x : DataW H × List MemPlace} (hT : Try.prog.underlying T = some (.slice e)) (hz : Try.prog.cellsOf e = z) (hz0 : 0 < z) (hby : Try.prog.bytesOf e = by_) (hb0 : 0 < by_)
    (h : rd enc w fuel T cs = some x) (hw : Lgt T x.1) :
    ∃ (s : Sl) (n b off : Nat) (D : Nat → DataW H) (Pl : Nat → List MemPlace), cs = [.slice s.a s.n s.c] ∧ s.n ≤ s.c ∧ s.n ≤ 140737488355328 ∧ (s.a = none → s.c = 0) ∧ (0 < s.n → s.a = some ⟨b, off, none⟩) ∧
      ∀ i, i < s.n → ∃ cs' : List Value, cs'.length = z ∧ (∀ c, c < z → w.cell? ⟨b, off + i * z + c, none⟩ = cs'[c]?) ∧ rd enc w n e cs' = some (D i, Pl i) ∧ Lgt e (D i) := by
  rcases open_slice hT h with ⟨rfl, rfl⟩ | ⟨a, len, cap, m, n, D, Pl, rfl, _, hlc, hcm, hm, rfl, hel⟩
  · exact ⟨⟨none, 0, 0⟩, 0, 0, 0, fun _ => .nil, fun _ => [], rfl, Nat.le_refl _, Nat.zero_le _, fun _ => rfl, fun h => absurd h (by simp), fun i hi => absurd hi (by simp)⟩
  · simp only [if_true] at hm
    subst hm
    rw [hz] at hel
    have hwt : (len + (m - len)) * by_ ≤ reachBytes := by
      have := hw ((len + (m - len)) * Try.prog.bytesOf e) (by simp [DataW.weights, hT])
      rw [hby] at this; exact this
    have hlen : len ≤ 140737488355328 := by
      have h1 : len ≤ (len + (m - len)) * by_ := Nat.le_trans (by omega : len ≤ len + (m - len)) (Nat.le_mul_of_pos_right _ hb0)
      unfold reachBytes at hwt
      omega
    have hD : ∀ i, i < len → Lgt e (D i) := fun i hi k hk => by
      refine hw k ?_
      simp only [DataW.weights, hT, List.mem_cons, List.mem_append]
      exact .inr (.inl (weightsAll_mem (List.mem_map.2 ⟨i, List.mem_range.2 hi, rfl⟩) k hk))
    obtain ⟨b, off, spot⟩ := a
    by_cases h0 : 0 < len
    · have hspot : spot = none := by
        obtain ⟨cs', h1, _⟩ := hel 0 (by omega)
        obtain ⟨_, h2, h3⟩ := World.cells?_some h1
        have h4 := h3 0 hz0
        simp only [Nat.zero_mul, Addr.add, if_true] at h4
        have h5 : 0 < cs'.length := by omega
        rw [List.getElem?_eq_getElem h5] at h4
        simpa using World.cell?_spot h4
      subst hspot
      refine ⟨⟨some ⟨b, off, none⟩, len, m⟩, n, b, off, D, Pl, rfl, hlc, hlen, fun h => by simp at h, fun _ => rfl, fun i hi => ?_⟩
      obtain ⟨cs', h1, h2⟩ := hel i (by simp only at hi; omega)
      obtain ⟨_, h3, h4⟩ := World.cells?_some h1
      exact ⟨cs', h3, fun c hc => by have := h4 c hc; rw [Addr.add_lit, Addr.add_lit] at this; exact this, h2, hD i hi⟩
    · exact ⟨⟨some ⟨b, off, spot⟩, len, m⟩, n, b, off, D, Pl, rfl, hlc, hlen, fun h => by simp at h, fun h => absurd h h0, fun i hi => absurd (Nat.lt_of_le_of_lt (Nat.zero_le _) hi) h0⟩

theorem w64_of {n : Int} (h : (Lit.int .i64 n).wf = true) : W64 n := by
  have := bounds_i64 h
  exact ⟨this.1, this.2⟩

theorem cells3 : Try.prog.cellsOf 3 = 1 := by kernel_rfl
theorem bytes3 : Try.prog.bytesOf 3 = 8 := by kernel_rfl

theorem open_intsV {fuel : Nat} {cs : List Value} {x : DataW H × List MemPlace} (h : rd enc w fuel 28 cs = some x) (hw : Lgt 28 x.1) :
    ∃ (s : Sl) (f : Nat → Int), cs = [.slice s.a s.n s.c] ∧ Ints w s f ∧ ∀ i, i < s.n → W64 (f i) := by
  obtain ⟨s, n, b, off, D, Pl, rfl, h1, h2, h3, h4, h5⟩ := open_row underlying28 cells3 (by decide) bytes3 (by decide) h hw
  obtain ⟨f, hf⟩ := choose_lt (α := Int) (n := s.n) (p := fun i v => w.cell? ⟨b, off + i, none⟩ = some (.int .i64 v) ∧ W64 v) (fun i hi => by
    obtain ⟨cs', c1, c2, c3, _⟩ := h5 i hi
    obtain ⟨v, rfl, _, hwf⟩ := DataW.trod_int underlying3 c3
    have := c2 0 (by decide)
    exact ⟨v, by simpa using this, w64_of hwf⟩)
  exact ⟨s, f, rfl, ⟨h1, h2, h3, fun h0 => ⟨b, off, h4 h0, fun i hi => (hf i hi).1⟩⟩, fun i hi => (hf i hi).2⟩

theorem cells39 : Try.prog.cellsOf 39 = 7 := by kernel_rfl
theorem bytes39 : Try.prog.bytesOf 39 = 88 := by kernel_rfl
theorem cells2 : Try.prog.cellsOf 2 = 1 := by kernel_rfl
theorem cells28 : Try.prog.cellsOf 28 = 1 := by kernel_rfl
theorem underlying2 : Try.prog.underlying 2 = some (.int .i64) := by kernel_rfl

theorem Lgt.part {t : Nat} {fs : Array Field} {parts : List (DataW H)} (hu : Try.prog.underlying t = some (.struct fs)) (h : Lgt t (.agg parts)) {i : Nat} {f : Field} {d : DataW H} (hf : fs.toList[i]? = some f) (hd : parts[i]? = some d) : Lgt f.type d := fun n hn => by
  refine h n ?_
  simp only [DataW.weights, hu]
  exact DataW.weights_mem_each (by rw [List.getElem?_map, hf]; rfl) hd n hn

theorem len1 {α : Type} {l : List α} (h : l.length = 1) : ∃ a, l = [a] := by
  match l, h with | [a], _ => exact ⟨a, rfl⟩
theorem len5 {α : Type} {l : List α} (h : l.length = 5) : ∃ a b c d e, l = [a, b, c, d, e] := by
  match l, h with | [a, b, c, d, e], _ => exact ⟨a, b, c, d, e, rfl⟩
theorem len7 {α : Type} {l : List α} (h : l.length = 7) : ∃ a b c d e f g, l = [a, b, c, d, e, f, g] := by
  match l, h with | [a, b, c, d, e, f, g], _ => exact ⟨a, b, c, d, e, f, g, rfl⟩

/-- One instruction. -/
theorem open_insV {fuel : Nat} {cs : List Value} {x : DataW H × List MemPlace} (h : rd enc w fuel 39 cs = some x) (hw : Lgt 39 x.1) :
    ∃ (v : IV) (a j : Nat → Int), cs = v.cells.toList ∧ Ints w v.args a ∧ Ints w v.into j ∧ W64 v.op ∧ W64 v.ty ∧ W64 v.to ∧ W64 v.sym ∧ W64 v.num ∧ (∀ i, i < v.args.n → W64 (a i)) ∧ ∀ i, i < v.into.n → W64 (j i) := by
  obtain ⟨xs, n, _, rfl, hl, hx, hf⟩ := DataW.trod_struct Try.underlying39 h
  rw [cells39] at hl
  obtain ⟨c0, c1, c2, c3, c4, c5, c6, rfl⟩ := len7 hl
  obtain ⟨y0, y1, y2, y3, y4, y5, y6, rfl⟩ := len7 (show xs.length = 7 from hx)
  have f0 := hf 0 _ rfl
  have f1 := hf 1 _ rfl
  have f2 := hf 2 _ rfl
  have f3 := hf 3 _ rfl
  have f4 := hf 4 _ rfl
  have f5 := hf 5 _ rfl
  have f6 := hf 6 _ rfl
  have w5 : Lgt 28 y5.1 := Lgt.part Try.underlying39 hw (i := 5) rfl rfl
  have w6 : Lgt 28 y6.1 := Lgt.part Try.underlying39 hw (i := 6) rfl rfl
  simp [cells3, cells2, cells28] at f0 f1 f2 f3 f4 f5 f6
  obtain ⟨v0, e0, _, b0⟩ := DataW.trod_int underlying3 f0
  obtain ⟨v1, e1, _, b1⟩ := DataW.trod_int underlying3 f1
  obtain ⟨v2, e2, _, b2⟩ := DataW.trod_int underlying3 f2
  obtain ⟨v3, e3, _, b3⟩ := DataW.trod_int underlying3 f3
  obtain ⟨v4, e4, _, b4⟩ := DataW.trod_int underlying2 f4
  obtain ⟨sa, a, e5, i5, b5⟩ := open_intsV f5 w5
  obtain ⟨si, j, e6, i6, b6⟩ := open_intsV f6 w6
  simp at e0 e1 e2 e3 e4 e5 e6
  subst e0 e1 e2 e3 e4 e5 e6
  exact ⟨⟨v0, v1, v2, v3, v4, sa, si⟩, a, j, rfl, i5, i6, w64_of b0, w64_of b1, w64_of b2, w64_of b3, w64_of b4, b5, b6⟩

instance : Inhabited Sl := ⟨⟨none, 0, 0⟩⟩
instance : Inhabited IV := ⟨IV.zero⟩

/-- A row of instructions. -/
theorem open_inss {fuel : Nat} {cs : List Value} {x : DataW H × List MemPlace} (h : rd enc w fuel 35 cs = some x) (hw : Lgt 35 x.1) :
    ∃ (s : Sl) (I : Nat → IV) (A J : Nat → Nat → Int), cs = [.slice s.a s.n s.c] ∧ Inss w s I ∧ ∀ k, k < s.n → Ints w (I k).args (A k) ∧ Ints w (I k).into (J k) ∧ W64 (I k).op ∧ W64 (I k).ty ∧ W64 (I k).to ∧ W64 (I k).sym ∧ W64 (I k).num ∧ (∀ i, i < (I k).args.n → W64 (A k i)) ∧ ∀ i, i < (I k).into.n → W64 (J k i) := by
  obtain ⟨s, n, b, off, D, Pl, rfl, h1, h2, h3, h4, h5⟩ := open_row underlying35 cells39 (by decide) bytes39 (by decide) h hw
  obtain ⟨f, hf⟩ := choose_lt (α := IV × (Nat → Int) × (Nat → Int)) (n := s.n) (p := fun i v => InsAt w b (off + i * 7) v.1 ∧ Ints w v.1.args v.2.1 ∧ Ints w v.1.into v.2.2 ∧ W64 v.1.op ∧ W64 v.1.ty ∧ W64 v.1.to ∧ W64 v.1.sym ∧ W64 v.1.num ∧ (∀ i, i < v.1.args.n → W64 (v.2.1 i)) ∧ ∀ i, i < v.1.into.n → W64 (v.2.2 i)) (fun i hi => by
    obtain ⟨cs', c1, c2, c3, c4⟩ := h5 i hi
    obtain ⟨v, a, j, rfl, hr⟩ := open_insV c3 c4
    exact ⟨(v, a, j), ⟨by simpa using c2 0 (by decide), c2 1 (by decide), c2 2 (by decide), c2 3 (by decide), c2 4 (by decide), c2 5 (by decide), c2 6 (by decide)⟩, hr⟩)
  exact ⟨s, fun k => (f k).1, fun k => (f k).2.1, fun k => (f k).2.2, rfl, ⟨h1, h2, h3, fun h0 => ⟨b, off, h4 h0, fun i hi => (hf i hi).1⟩⟩, fun k hk => (hf k hk).2⟩

theorem cells37 : Try.prog.cellsOf 37 = 1 := by kernel_rfl
theorem bytes37 : Try.prog.bytesOf 37 = 24 := by kernel_rfl
theorem cells35 : Try.prog.cellsOf 35 = 1 := by kernel_rfl
theorem cells33 : Try.prog.cellsOf 33 = 5 := by kernel_rfl
theorem cells31 : Try.prog.cellsOf 31 = 1 := by kernel_rfl
theorem cells9 : Try.prog.cellsOf 9 = 1 := by kernel_rfl
theorem cells4 : Try.prog.cellsOf 4 = 1 := by kernel_rfl

theorem open_blk {fuel : Nat} {cs : List Value} {x : DataW H × List MemPlace} (h : rd enc w fuel 37 cs = some x) (hw : Lgt 37 x.1) : ∃ n y, rd enc w n 35 cs = some y ∧ Lgt 35 y.1 := by
  obtain ⟨xs, n, _, rfl, hl, hx, hf⟩ := DataW.trod_struct Try.underlying37 h
  rw [cells37] at hl
  obtain ⟨c0, rfl⟩ := len1 hl
  obtain ⟨y0, rfl⟩ := len1 (show xs.length = 1 from hx)
  have f0 := hf 0 _ rfl
  have w0 : Lgt 35 y0.1 := Lgt.part Try.underlying37 hw (i := 0) rfl rfl
  simp [cells35] at f0
  exact ⟨n, y0, f0, w0⟩

/-- All numbers of a function fit. -/
structure Fits (F : FV) : Prop where
  res : W64 F.res
  par : ∀ i, i < F.par.n → W64 (F.P i)
  ins : ∀ j, j < F.blk.n → ∀ k, k < (F.B j).n → W64 (F.I j k).op ∧ W64 (F.I j k).ty ∧ W64 (F.I j k).to ∧ W64 (F.I j k).sym ∧ W64 (F.I j k).num
  args : ∀ j, j < F.blk.n → ∀ k, k < (F.B j).n → ∀ i, i < (F.I j k).args.n → W64 (F.A j k i)
  into : ∀ j, j < F.blk.n → ∀ k, k < (F.B j).n → ∀ i, i < (F.I j k).into.n → W64 (F.J j k i)

theorem Fits.rng {F : FV} (h : Fits F) : Rng F := ⟨fun j hj k hk => (h.ins j hj k hk).2.2.1, h.args⟩

/-- A function. -/
theorem open_func {fuel : Nat} {cs : List Value} {x : DataW H × List MemPlace} (h : rd enc w fuel 33 cs = some x) (hw : Lgt 33 x.1) :
    ∃ F : FV, cs = [.string F.name, .bool F.out, .slice F.par.a F.par.n F.par.c, .int .i64 F.res, .slice F.blk.a F.blk.n F.blk.c] ∧ In w F ∧ Fits F ∧ F.name.size ≤ maxLen := by
  obtain ⟨xs, n, _, rfl, hl, hx, hf⟩ := DataW.trod_struct Try.underlying33 h
  rw [cells33] at hl
  obtain ⟨c0, c1, c2, c3, c4, rfl⟩ := len5 hl
  obtain ⟨y0, y1, y2, y3, y4, rfl⟩ := len5 (show xs.length = 5 from hx)
  have f0 := hf 0 _ rfl
  have f1 := hf 1 _ rfl
  have f2 := hf 2 _ rfl
  have f3 := hf 3 _ rfl
  have f4 := hf 4 _ rfl
  have w2 : Lgt 28 y2.1 := Lgt.part Try.underlying33 hw (i := 2) rfl rfl
  have w4 : Lgt 31 y4.1 := Lgt.part Try.underlying33 hw (i := 4) rfl rfl
  simp [cells3, cells9, cells28, cells31, cells4] at f0 f1 f2 f3 f4
  obtain ⟨nm, e0, _, b0⟩ := DataW.trod_string Try.underlying9 f0
  obtain ⟨ou, e1, _⟩ := DataW.trod_bool Try.underlying4 f1
  obtain ⟨sp, P, e2, i2, b2⟩ := open_intsV f2 w2
  obtain ⟨re, e3, _, b3⟩ := DataW.trod_int underlying3 f3
  obtain ⟨sb, nb, b, off, D, Pl, e4, h1, h2, h3, h4, h5⟩ := open_row underlying31 cells37 (by decide) bytes37 (by decide) f4 w4
  simp at e0 e1 e2 e3 e4
  subst e0 e1 e2 e3 e4
  obtain ⟨f, hf⟩ := choose_lt (α := Sl × (Nat → IV) × (Nat → Nat → Int) × (Nat → Nat → Int)) (n := sb.n) (p := fun i v => w.cell? ⟨b, off + i, none⟩ = some (.slice v.1.a v.1.n v.1.c) ∧ Inss w v.1 v.2.1 ∧ ∀ k, k < v.1.n → Ints w (v.2.1 k).args (v.2.2.1 k) ∧ Ints w (v.2.1 k).into (v.2.2.2 k) ∧ W64 (v.2.1 k).op ∧ W64 (v.2.1 k).ty ∧ W64 (v.2.1 k).to ∧ W64 (v.2.1 k).sym ∧ W64 (v.2.1 k).num ∧ (∀ i, i < (v.2.1 k).args.n → W64 (v.2.2.1 k i)) ∧ ∀ i, i < (v.2.1 k).into.n → W64 (v.2.2.2 k i)) (fun i hi => by
    obtain ⟨cs', c1, c2, c3, c4⟩ := h5 i hi
    obtain ⟨m, y, d1, d2⟩ := open_blk c3 c4
    obtain ⟨s, I, A, J, rfl, hr⟩ := open_inss d1 d2
    exact ⟨(s, I, A, J), by simpa using c2 0 (by decide), hr⟩)
  refine ⟨⟨nm, ou, sp, re, sb, P, fun j => (f j).1, fun j => (f j).2.1, fun j => (f j).2.2.1, fun j => (f j).2.2.2⟩, rfl, ⟨i2, ⟨h1, h2, h3, fun h0 => ⟨b, off, h4 h0, fun i hi => (hf i hi).1⟩⟩, fun j hj => (hf j hj).2.1, fun j hj k hk => ((hf j hj).2.2 k hk).1, fun j hj k hk => ((hf j hj).2.2 k hk).2.1⟩, ⟨w64_of b3, b2, fun j hj k hk => ?_, fun j hj k hk => ?_, fun j hj k hk => ?_⟩, b0⟩
  · obtain ⟨_, _, a1, a2, a3, a4, a5, _⟩ := (hf j hj).2.2 k hk
    exact ⟨a1, a2, a3, a4, a5⟩
  · obtain ⟨_, _, _, _, _, _, _, a, _⟩ := (hf j hj).2.2 k hk
    exact a
  · obtain ⟨_, _, _, _, _, _, _, _, a⟩ := (hf j hj).2.2 k hk
    exact a

end Go.Proofs.Ytnodofbpogcheaa.Opn

/-
  Whether a function is light enough: the contract of plnkeep.Light.
-/
namespace Go.Proofs.Ytnodofbpogcheaa.Rd
open Go.RowKit View

set_option linter.unusedVariables false

/-- A bool that says so, and memory that has only grown. -/
def Ans (p : Bool → Prop) (w : World) (e : Ending) (w' : World) : Prop := ∃ r : Bool, e = .returned (.bool r) ∧ p r ∧ Below w.heap.size w w'

def Thin (F : FV) (j : Nat) : Prop := ∀ k, k < (F.B j).n → (F.I j k).args.n ≤ 20 ∧ (F.I j k).into.n ≤ 20

theorem light_of {F : FV} (h1 : F.name.size ≤ 40) (h2 : F.par.n ≤ 8) (h3 : F.blk.n ≤ 48) (h4 : cnt (fun j => (F.B j).n) F.blk.n ≤ 400) (h5 : ∀ j, j < F.blk.n → Thin F j) : Light F := by
  have key : ∀ m, cnt (fun j => (F.B j).n) m ≤ 400 → ∀ j, j < m → (F.B j).n ≤ 400 := by
    intro m
    induction m with
    | zero => intro _ j hj; omega
    | succ m ih =>
      intro hm j hj
      rw [cnt] at hm
      rcases Nat.lt_or_eq_of_le (Nat.le_of_lt_succ hj) with h | h
      · exact ih (by omega) j h
      · rw [h]; omega
  exact ⟨h4, h1, h2, h3, key _ h4, fun j hj k hk => (h5 j hj k hk).1, fun j hj k hk => (h5 j hj k hk).2⟩

set_option maxHeartbeats 1000000 in
theorem light_any (F : FV) (w : World) (hF : In w F) :
    Calls Try.prog 52 #[F.val] w fun e w' => Ans (fun r => r = true → Light F) w e w' := by
  by_cases g1 : (40 : Int) < F.name.size
  · have d1 : decide ((40 : Int) < F.name.size) = true := by simpa using g1
    go_enter Try.func52, Try.ntmps52
    go_wp2
    go_ret
    exact ⟨false, rfl, by simp, new (same w) _⟩
  have d1 : decide ((40 : Int) < F.name.size) = false := by simpa using g1
  by_cases g2 : (8 : Int) < F.par.n
  · have d2 : decide ((8 : Int) < F.par.n) = true := by simpa using g2
    go_enter Try.func52, Try.ntmps52
    go_wp2
    go_ret
    exact ⟨false, rfl, by simp, new (same w) _⟩
  have d2 : decide ((8 : Int) < F.par.n) = false := by simpa using g2
  by_cases g3 : (16 : Int) < F.blk.n
  · have d3 : decide ((16 : Int) < F.blk.n) = true := by simpa using g3
    go_enter Try.func52, Try.ntmps52
    go_wp2
    go_ret
    exact ⟨false, rfl, by simp, new (same w) _⟩
  have d3 : decide ((16 : Int) < F.blk.n) = false := by simpa using g3
  go_enter Try.func52, Try.ntmps52
  go_wp2
  go_loop [3, 4] (fun s i => ∃ k : Nat, k ≤ F.blk.n ∧ i = .int .i64 k ∧ s = .int .i64 (cnt (fun j => (F.B j).n) k) ∧ cnt (fun j => (F.B j).n) k ≤ 90 ∧ ∀ j, j < k → Thin F j) (fun _ i => F.blk.n - (intOf i).toNat)
  case atStart => exact ⟨0, Nat.zero_le _, rfl, rfl, by simp [cnt], fun j hj => by omega⟩
  case round =>
    obtain ⟨k, hk, rfl, rfl, hle, hall⟩ := hrel
    have HA := hid hall
    clear hall
    by_cases hlt : k < F.blk.n
    · obtain ⟨b, o, hix, hck⟩ := hF.blk.at hlt
      have hbl := World.block_lt_of_cell? _ _ hck
      have hin := hF.ins k hlt
      have q1 := hin.1
      have q2 := hin.2.1
      by_cases g5 : (90 : Int) < cnt (fun j => (F.B j).n) k + (F.B k).n
      · go_wp2
        go_ret
        exact ⟨false, rfl, by simp, new (same w) _⟩
      go_wp2
      go_loop [5] (fun i => ∃ t : Nat, t ≤ (F.B k).n ∧ i = .int .i64 t ∧ ∀ i, i < t → (F.I k i).args.n ≤ 20 ∧ (F.I k i).into.n ≤ 20) (fun i => (F.B k).n - (intOf i).toNat)
      case atStart => exact ⟨0, Nat.zero_le _, rfl, fun j hj => by omega⟩
      case round =>
        obtain ⟨t, ht, rfl, hall⟩ := hrel
        have HB := hid hall
        clear hall
        by_cases htl : t < (F.B k).n
        · obtain ⟨ib, io, hiy, c0, c1, c2, c3, c4, c5, c6⟩ := hin.at htl
          have hbl' := World.block_lt_of_cell? _ _ c5
          by_cases g6 : (20 : Int) < (F.I k t).args.n
          · have d6 : decide ((20 : Int) < (F.I k t).args.n) = true := by simpa using g6
            go_wp2
            go_ret
            exact ⟨false, rfl, by simp, new (same w) _⟩
          have d6 : decide ((20 : Int) < (F.I k t).args.n) = false := by simpa using g6
          by_cases g7 : (20 : Int) < (F.I k t).into.n
          · have d7 : decide ((20 : Int) < (F.I k t).into.n) = true := by simpa using g7
            go_wp2
            go_ret
            exact ⟨false, rfl, by simp, new (same w) _⟩
          have d7 : decide ((20 : Int) < (F.I k t).into.n) = false := by simpa using g7
          go_wp2
          go_round
          case rel => exact ⟨t + 1, by omega, by go_num, upto HB.out ⟨by omega, by omega⟩⟩
          case measure => simp [intOf]; omega
        · obtain rfl : t = (F.B k).n := by omega
          go_wp2
          go_round
          case rel => exact ⟨k + 1, by omega, by go_num, by simp [cnt], by rw [cnt]; omega, upto HA.out HB.out⟩
          case measure => simp [intOf]; omega
    · obtain rfl : k = F.blk.n := by omega
      go_wp2
      go_ret
      exact ⟨true, rfl, fun _ => light_of (by omega) (by omega) (by omega) (Nat.le_trans hle (by decide)) HA.out, new (same w) _⟩

end Go.Proofs.Ytnodofbpogcheaa.Rd
