/-
  The stable sort at twenty entries or fewer, and what it makes of a Phi's rows.
-/
import Derived.Test.YtbmfimojhcdnbaaSort
import Derived.Test.YtbmfimojhcdnbaaCopy
namespace Go.Proofs.Ytbmfimojhcdnbaa.Srt
open Go.RowKit View Rd

set_option linter.unusedVariables false

theorem insertion_none (v : Value) (m : Nat) (g : Value) (w : World) (hm : m ≤ 20) :
    Calls Try.prog 156 #[v, .int .i64 m, .int .i64 m, g] w fun e w' => e = .returned (.tuple #[]) ∧ w' = w := by
  go_enter Try.func156, Try.ntmps156
  go_wp2_with fail
  refine wp_loop_rounds 1 ?_
  rw [rounds_succ]
  go_wp2_with fail
  go_end0
  exact ⟨rfl, rfl⟩

def Sorted (w : World) (E n : Nat) (p q : Nat → Int) (e : Ending) (w' : World) : Prop := e = .returned (.tuple #[]) ∧ ∃ p' q', St w w' E n p q p' q' ∧ Rises q' n

set_option maxHeartbeats 1000000 in
theorem stable_any (E n c : Nat) (p q : Nat → Int) (w : World) (h : Ents w E n p q) (hE : E < w.heap.size) (hn : n ≤ 20) :
    Calls Try.prog 146 #[.slice (some ⟨E, 0, none⟩) n c, .int .i64 n, .func (.func 131) #[] #[]] w fun e w' => Sorted w E n p q e w' := by
  have HI := hid (insertion_any E n c p q w h hE hn)
  clear h
  rcases Nat.lt_or_eq_of_le hn with h20 | rfl
  · go_enter Try.func146, Try.ntmps146
    go_wp2_with fail
    refine wp_loop_rounds 1 ?_
    rw [rounds_succ]
    go_wp2_with fail
    refine HI.out.mono ?_
    rintro e w1 ⟨rfl, hs⟩
    have HS := hid hs
    clear hs
    go_wp2_with fail
    refine wp_loop_rounds 1 ?_
    rw [rounds_succ]
    go_wp2_with fail
    go_end0
    exact ⟨rfl, HS.out⟩
  · go_enter Try.func146, Try.ntmps146
    go_wp2_with fail
    refine wp_loop_rounds 2 ?_
    rw [rounds_succ]
    go_wp2_with fail
    refine HI.out.mono ?_
    rintro e w1 ⟨rfl, hs⟩
    have HS := hid hs
    clear hs
    go_wp2_with fail
    rw [rounds_succ]
    go_wp2_with fail
    refine (insertion_none _ 20 _ _ (Nat.le_refl _)).mono ?_
    rintro e w2 ⟨rfl, rfl⟩
    go_wp2_with fail
    refine wp_loop_rounds 1 ?_
    rw [rounds_succ]
    go_wp2_with fail
    go_end0
    exact ⟨rfl, HS.out⟩

theorem sortStable_any (E n c : Nat) (p q : Nat → Int) (w : World) (h : Ents w E n p q) (hE : E < w.heap.size) (hn : n ≤ 20) :
    Calls Try.prog 130 #[.slice (some ⟨E, 0, none⟩) n c, .func (.func 131) #[] #[]] w fun e w' => Sorted w E n p q e w' := by
  have HI := hid (stable_any E n c p q w h hE hn)
  clear h
  go_enter Try.func130, Try.ntmps130
  go_wp2_with fail
  refine HI.out.mono ?_
  rintro e w1 ⟨rfl, hs⟩
  have HS := hid hs
  clear hs
  go_wp2_with fail
  go_end0
  exact ⟨rfl, HS.out⟩

/-- But for the blocks that p names, and new ones, memory is as it was. -/
structure Turn (p : Nat → Prop) (w w' : World) : Prop where
  os : w'.os = w.os
  tape : w'.tape = w.tape
  output : w'.output = w.output
  size : w.heap.size ≤ w'.heap.size
  block : ∀ k, k < w.heap.size → ¬ p k → w'.heap[k]? = w.heap[k]?
  froz : ∀ a : Addr, a.block < w.heap.size → w'.frozen? a = w.frozen? a

theorem Turn.refl (p : Nat → Prop) (w : World) : Turn p w w := ⟨rfl, rfl, rfl, Nat.le_refl _, fun _ _ _ => rfl, fun _ _ => rfl⟩
theorem Turn.of_below {p : Nat → Prop} {w w' : World} (h : Below w.heap.size w w') : Turn p w w' := ⟨h.os, h.tape, h.output, h.size, fun k hk _ => h.block k hk, fun a ha => h.frozen ha⟩
theorem Turn.below {p : Nat → Prop} {w a b : World} (h : Turn p w a) (k : Below a.heap.size a b) : Turn p w b :=
  ⟨k.os.trans h.os, k.tape.trans h.tape, k.output.trans h.output, Nat.le_trans h.size k.size, fun i hi hp => by rw [k.block i (Nat.lt_of_lt_of_le hi h.size)]; exact h.block i hi hp, fun x hx => by rw [k.frozen (Nat.lt_of_lt_of_le hx h.size)]; exact h.froz x hx⟩
theorem Turn.setCell {p : Nat → Prop} {w a : World} (h : Turn p w a) {x : Addr} (hx : p x.block ∨ w.heap.size ≤ x.block) (v : Value) : Turn p w (a.setCell x v) :=
  ⟨h.os, h.tape, h.output, by rw [World.size_setCell]; exact h.size, fun i hi hp => by rw [Below.heap_setCell _ _ _ _ (fun e => by subst e; rcases hx with hx | hx; exact hp hx; omega)]; exact h.block i hi hp, fun y hy => by rw [World.frozen?_setCell]; exact h.froz y hy⟩
theorem Turn.drew {p : Nat → Prop} {w a : World} (h : Turn p w a) : Turn p w a.drew := ⟨h.os, h.tape, h.output, h.size, h.block, h.froz⟩
theorem Turn.alloc {p : Nat → Prop} {w a : World} (h : Turn p w a) (o : Obj) : Turn p w (a.alloc o) := h.below (new (same _) _)
theorem Turn.grown {p : Nat → Prop} {w a b : World} {E : Nat} (h : Turn p w a) (k : a.grownBy b (some E)) (hE : w.heap.size ≤ E) : Turn p w b :=
  ⟨k.os.trans h.os, k.tape.trans h.tape, k.output.trans h.output, Nat.le_trans h.size k.size, fun i hi hp => by rw [k.block i (Nat.lt_of_lt_of_le hi h.size) (fun e => by have := Option.some.inj e; omega)]; exact h.block i hi hp, fun x hx => by rw [World.frozen?_of_block (w := a) (k.block x.block (Nat.lt_of_lt_of_le hx h.size) (fun e => by have := Option.some.inj e; omega))]; exact h.froz x hx⟩
theorem Turn.kept {p : Nat → Prop} {w w' : World} (h : Turn p w w') : Kept (fun k => k < w.heap.size ∧ ¬ p k) w w' := ⟨h.size, fun k hk => h.block k hk.1 hk.2⟩

theorem Turn.wide {p q : Nat → Prop} {w w' : World} (h : Turn p w w') (hpq : ∀ b, p b → q b) : Turn q w w' := ⟨h.os, h.tape, h.output, h.size, fun k hk hq => h.block k hk (fun hp => hq (hpq k hp)), h.froz⟩
theorem Turn.trans {p : Nat → Prop} {a b c : World} (h : Turn p a b) (k : Turn p b c) : Turn p a c :=
  ⟨k.os.trans h.os, k.tape.trans h.tape, k.output.trans h.output, Nat.le_trans h.size k.size, fun i hi hp => (k.block i (Nat.lt_of_lt_of_le hi h.size) hp).trans (h.block i hi hp), fun x hx => (k.froz x (Nat.lt_of_lt_of_le hx h.size)).trans (h.froz x hx)⟩

/-- In order by the second, of the same the first one first. -/
def StSort (a j a' j' : Nat → Int) (n : Nat) : Prop := Rises j' n ∧ ∀ c, sel c a' j' n = sel c a j n

def ent (a j : Nat → Int) : Nat → List Value
  | 0 => []
  | k + 1 => ent a j k ++ [.int .i64 (a k), .int .i64 (j k)]

theorem ent_length (a j : Nat → Int) : ∀ k, (ent a j k).length = k * 2
  | 0 => rfl
  | k + 1 => by rw [ent, List.length_append, ent_length a j k]; simp; omega

theorem ent_at (a j : Nat → Int) : ∀ k t, t < k → (ent a j k)[t * 2]? = some (.int .i64 (a t)) ∧ (ent a j k)[t * 2 + 1]? = some (.int .i64 (j t))
  | 0, t, h => by omega
  | k + 1, t, h => by
    rw [ent]
    rcases Nat.lt_or_eq_of_le (Nat.le_of_lt_succ h) with h' | rfl
    · rw [List.getElem?_append_left (by rw [ent_length]; omega), List.getElem?_append_left (by rw [ent_length]; omega)]
      exact ent_at a j k t h'
    · rw [List.getElem?_append_right (by rw [ent_length]; omega), List.getElem?_append_right (by rw [ent_length]; omega), ent_length]
      rw [show t * 2 - t * 2 = 0 by omega, show t * 2 + 1 - t * 2 = 1 by omega]
      exact ⟨rfl, rfl⟩

theorem ents_of {w : World} {E n c : Nat} {a j : Nat → Int} (h : w.ownsRow E 150 2 (.slice (some ⟨E, 0, none⟩) n c) n (ent a j n)) : Ents w E n a j :=
  ⟨fun i hi => by rw [h.cellAt (i * 2) (by omega)]; exact (ent_at a j n i hi).1, fun i hi => by rw [h.cellAt (i * 2 + 1) (by omega)]; exact (ent_at a j n i hi).2, fun i => h.frozenAt i⟩

theorem info150 : (Try.prog.info? 150).map (fun i => (i.zero, i.size, i.bytes)) = some (some (.agg #[.int .i64 0, .int .i64 0]), 2, 16) := by kernel_rfl
theorem underlying148 : Try.prog.underlying 148 = some (.slice 150) := by kernel_rfl

theorem own_at {w : World} {s : Sl} {f : Nat → Int} (h : Ints w s f) {g : Nat} (hg : s.a = some ⟨g, 0, none⟩) {k : Nat} (hk : k < s.n) :
    (∀ wx, (Instr.indexAt 28 (.slice s.a s.n s.c) (.int .i64 k)).run Try.prog wx = .ok (.pointer (some ⟨g, k, none⟩)) wx) ∧ w.cell? ⟨g, k, none⟩ = some (.int .i64 (f k)) := by
  obtain ⟨b, off, ha, hc⟩ := h.2.2.2 (by omega)
  have e := hg.symm.trans ha
  simp at e
  obtain ⟨rfl, rfl⟩ := e
  exact ⟨by have := index_row hg underlying28 size3 hk; simpa using this, by simpa using hc k hk⟩

theorem own_set {w : World} {s : Sl} {f : Nat → Int} (h : Ints w s f) {g : Nat} (hg : s.a = some ⟨g, 0, none⟩) {k : Nat} (hk : k < s.n) (v : Int) : Ints (w.setCell ⟨g, k, none⟩ (.int .i64 v)) s (fun i => if i = k then v else f i) :=
  ⟨h.1, h.2.1, h.2.2.1, fun h0 => ⟨g, 0, hg, fun i hi => by
    simp only [Nat.zero_add]
    by_cases e : i = k
    · subst e; rw [if_pos rfl]; exact cell_same (own_at h hg hi).2
    · rw [if_neg e]; exact cell_other (ne_off (fun h => e h.symm)) (own_at h hg hi).2⟩⟩

theorem own_other {w : World} {s : Sl} {f : Nat → Int} (h : Ints w s f) {a : Addr} (hne : ∀ b o, s.a = some ⟨b, o, none⟩ → 0 < s.n → b ≠ a.block) (v : Value) : Ints (w.setCell a v) s f :=
  h.kept ((Kept.refl (fun k => k ≠ a.block) w).setCell (fun h => h rfl) v) hne

def mix (k : Nat) (f g : Nat → Int) : Nat → Int := fun i => if i < k then f i else g i

theorem mix_step (k : Nat) (f g : Nat → Int) (i : Nat) : (if i = k then f k else mix k f g i) = mix (k + 1) f g i := by
  unfold mix
  by_cases h : i = k
  · subst h; simp
  · by_cases h' : i < k
    · simp [h, h', Nat.lt_succ_of_lt h']
    · simp [h, h', show ¬ i < k + 1 by omega]

/-- Two rows of the call's own, sorted together. -/
def Both (s t : Sl) (a j : Nat → Int) (w : World) (e : Ending) (w' : World) : Prop :=
  e = .returned (.tuple #[]) ∧ ∃ a' j', Ints w' s a' ∧ Ints w' t j' ∧ StSort a j a' j' s.n ∧ Turn (fun k => 0 < s.n ∧ ((∃ o, s.a = some ⟨k, o, none⟩) ∨ ∃ o, t.a = some ⟨k, o, none⟩)) w w'

set_option maxHeartbeats 1000000 in
theorem sortEntries_any (s t : Sl) (a j : Nat → Int) (b T : Nat) (w : World) (hs : Ints w s a) (ht : Ints w t j) (ms : Mine b T w s) (mt : Mine b T w t) (hT : T ≤ w.heap.size)
    (hne : ∀ g g', s.a = some ⟨g, 0, none⟩ → t.a = some ⟨g', 0, none⟩ → 0 < s.n → g ≠ g') (hn : t.n = s.n) (h20 : s.n ≤ 20) :
    Calls Try.prog 100 #[.slice s.a s.n s.c, .slice t.a t.n t.c] w fun e w' => Both s t a j w e w' := by
  obtain ⟨i0, hi, hz0, hz1, hz2⟩ := info_parts info150
  have HN := hid hn
  have htn : t.n ≤ 20 := by omega
  clear hn
  have HS := hid hs
  have HT := hid ht
  have MS := hid ms
  have MT := hid mt
  have NE := hid hne
  clear hs ht ms mt hne
  go_enter Try.func100, Try.ntmps100
  go_wp2_with (at_make; refine wpList_make_own _ rfl (.const (.int .i64 0)) (.tmp 10) 148 rfl w.heap.size 150 i0 (.agg #[.int .i64 0, .int .i64 0]) 2 underlying148 hi hz0 hz1 .i64 .i64 t.n t.n rfl rfl rfl (by rw [hz2]; omega) (by simp only [maxLen]; omega) (Nat.le_refl _) ?_; intro w1 hown1 hgr1)
  have hb1 : Below w.heap.size w w1 := (same w).grown hgr1 (Nat.le_refl _) (fun k hk => by cases hk)
  have hlt1 : w.heap.size < w1.heap.size := by obtain ⟨_, h⟩ := hown1.lt w.heap.size rfl; exact h
  have HO1 := hid hown1
  clear hown1 hgr1
  go_loopw [4, 14] (fun v i wr => ∃ k : Nat, k ≤ t.n ∧ i = .int .i64 k ∧ v = .slice (some ⟨w.heap.size, 0, none⟩) k t.n ∧ wr.ownsRow w.heap.size 150 2 (.slice (some ⟨w.heap.size, 0, none⟩) k t.n) k (ent a j k) ∧ Below w.heap.size w wr) (fun _ i _ => t.n - (intOf i).toNat)
  case atStart => exact ⟨0, Nat.zero_le _, rfl, rfl, HO1.out, hb1⟩
  case round =>
    clear HO1 hb1 hlt1
    obtain ⟨k, hk, rfl, rfl, hown, hb⟩ := hrel
    have HO := hid hown
    clear hown
    by_cases hlt : k < t.n
    · obtain ⟨b1, o1, hix1, hc1⟩ := (HS.out.on hb).at (k := k) (by have := HN.out; omega)
      obtain ⟨b2, o2, hix2, hc2⟩ := (HT.out.on hb).at hlt
      go_wp2_with (at_builtin; refine wpList_append_fits _ rfl (.tmp 19) (.tmp 26) 148 rfl w.heap.size 150 i0 2 underlying148 hi hz1 w.heap.size k t.n _ rfl (HO.out.alloc _) ⟨wr.heap.size, 0, none⟩ 1 1 [.int .i64 (a k), .int .i64 (j k)] rfl rfl ?c1 ?c2 ?c3 ?_)
      case c1 => exact cell_two_new _ _ _ _
      case c2 => intro u hu; simp at hu; rcases hu with rfl | rfl <;> rfl
      case c3 => omega
      intro w4 hown4 hgr4
      have hbl : Below w.heap.size w w4 := (new hb _).grown hgr4 (by have := hb.size; simp; omega) (fun k hk => by cases hk; exact Nat.le_refl _)
      have HW := hid hown4
      clear hown4 hgr4
      go_wp2
      go_round
      case rel => exact ⟨k + 1, by omega, by go_num, rfl, HW.out, hbl⟩
      case measure => simp [intOf]; omega
    · obtain rfl : k = t.n := by omega
      have hE : w.heap.size < wr.heap.size := (HO.out.lt w.heap.size rfl).2
      go_wp2_with fail
      refine (sortStable_any w.heap.size t.n t.n a j _ (ents_of HO.out) hE htn).mono ?_
      rintro e w2 ⟨rfl, p, q, hst, hri⟩
      have hE2 : w.heap.size < w2.heap.size := Nat.lt_of_lt_of_le hE hst.grown.size
      have ht2 : Turn (fun k => 0 < s.n ∧ ((∃ o, s.a = some ⟨k, o, none⟩) ∨ ∃ o, t.a = some ⟨k, o, none⟩)) w w2 := (Turn.of_below hb).grown hst.grown (Nat.le_refl _)
      have kk : Kept (fun k => k ≠ w.heap.size ∧ k < wr.heap.size) wr w2 := kept_of_grown hst.grown
      have hzb := hb.size
      have is2 : Ints w2 s a := (HS.out.on hb).kept' (MS.out.on hb hT) kk (fun b _ h => by constructor <;> omega)
      have it2 : Ints w2 t j := (HT.out.on hb).kept' (MT.out.on hb hT) kk (fun b _ h => by constructor <;> omega)
      have ALL := hid (And.intro is2 (And.intro it2 (And.intro ht2 hst.ents)))
      have SRT := hid (show StSort a j p q t.n from ⟨hri, hst.sels⟩)
      clear hst hri ht2 kk is2 it2 HO hb hE
      go_wp2_with fail
      go_loopw [33] (fun i wr => ∃ k : Nat, k ≤ t.n ∧ i = .int .i64 k ∧ Ints wr s (mix k p a) ∧ Ints wr t (mix k q j) ∧ Turn (fun k => 0 < s.n ∧ ((∃ o, s.a = some ⟨k, o, none⟩) ∨ ∃ o, t.a = some ⟨k, o, none⟩)) w wr ∧ Ents wr w.heap.size t.n p q ∧ w.heap.size < wr.heap.size) (fun i _ => t.n - (intOf i).toNat)
      case atStart => exact ⟨0, Nat.zero_le _, rfl, ALL.out.1.congr (fun i _ => by simp [mix]), ALL.out.2.1.congr (fun i _ => by simp [mix]), ALL.out.2.2.1, ALL.out.2.2.2, hE2⟩
      case round =>
        clear ALL hE2
        obtain ⟨k, hk, rfl, is, it, htn2, hen, hEr⟩ := hrel
        have ALL := hid (And.intro is (And.intro it (And.intro htn2 hen)))
        by_cases hlt : k < t.n
        · have hlt' : k < s.n := by have := HN.out; omega
          obtain ⟨g, hg, hg1, hg2, hgf⟩ := MS.out (by omega)
          obtain ⟨g', hg', hg1', hg2', hgf'⟩ := MT.out (by omega)
          have hgg := NE.out g g' hg hg' (by omega)
          obtain ⟨x1, c1⟩ := own_at is hg hlt'
          obtain ⟨x2, c2⟩ := own_at it hg' hlt
          have f1 : wr.frozen? ⟨g, k, none⟩ = false := by rw [htn2.froz _ (by show g < _; omega)]; exact hgf k
          have f2 : wr.frozen? ⟨g', k, none⟩ = false := by rw [htn2.froz _ (by show g' < _; omega)]; exact hgf' k
          have e0 := hen.c0 k hlt
          have e1 := hen.c1 k hlt
          have y1 : g < wr.heap.size := by omega
          have y2 : g' < wr.heap.size := by omega
          have y3 : ¬ g = wr.heap.size := by omega
          have y4 : ¬ g' = wr.heap.size := by omega
          have hgg' : ¬ g' = g := fun h => hgg h.symm
          have GS := hid hg
          have GT := hid hg'
          clear is it htn2 hen hg hg' hgf hgf'
          go_wp2_with fail
          go_region
          go_wp2_with fail
          go_round
          case rel =>
            have is3 := own_other (own_set ALL.out.1 GS.out hlt' (p k)) (a := ⟨g', k, none⟩) (fun b o h _ => by have := GS.out.symm.trans h; simp at this; show b ≠ g'; omega) (.int .i64 (q k))
            have it3 := own_set (own_other ALL.out.2.1 (a := ⟨g, k, none⟩) (fun b o h _ => by have := GT.out.symm.trans h; simp at this; show b ≠ g; omega) (.int .i64 (p k))) GT.out hlt (q k)
            have kz : Kept (fun b => b ≠ g ∧ b ≠ g') wr ((wr.setCell ⟨g, k, none⟩ (.int .i64 (p k))).setCell ⟨g', k, none⟩ (.int .i64 (q k))) := ((Kept.refl _ _).setCell (by simp) _).setCell (by simp) _
            have hen3 : Ents ((wr.setCell ⟨g, k, none⟩ (.int .i64 (p k))).setCell ⟨g', k, none⟩ (.int .i64 (q k))) w.heap.size t.n p q := ⟨fun i hi => cell_kept kz ⟨(by show w.heap.size ≠ _; omega), (by show w.heap.size ≠ _; omega)⟩ (ALL.out.2.2.2.c0 i hi), fun i hi => cell_kept kz ⟨(by show w.heap.size ≠ _; omega), (by show w.heap.size ≠ _; omega)⟩ (ALL.out.2.2.2.c1 i hi), fun i => by simp only [World.frozen?_setCell]; exact ALL.out.2.2.2.fz i⟩
            have hen4 := hen3.on (by simp; omega) (new (same _) (.cells #[.int .i64 (p k), .int .i64 (q k)] 150))
            refine ⟨k + 1, by omega, by go_num, (is3.congr (fun i _ => mix_step k p a i)).on (Below.drew (new (same _) _)), (it3.congr (fun i _ => mix_step k q j i)).on (Below.drew (new (same _) _)), ?_, ⟨hen4.c0, hen4.c1, hen4.fz⟩, ?_⟩
            · exact (((ALL.out.2.2.1.setCell (x := ⟨g, k, none⟩) (.inl ⟨by omega, .inl ⟨0, GS.out⟩⟩) _).setCell (x := ⟨g', k, none⟩) (.inl ⟨by omega, .inr ⟨0, GT.out⟩⟩) _).alloc _).drew
            · simp; omega
          case measure => simp [intOf]; omega
        · obtain rfl : k = t.n := by omega
          go_wp2_with fail
          go_end0
          refine ⟨rfl, p, q, ALL.out.1.congr (fun i hi => by have := HN.out; simp [mix, show i < t.n by omega]), ALL.out.2.1.congr (fun i hi => by simp [mix, hi]), by rw [← HN.out]; exact SRT.out, ALL.out.2.2.1⟩

end Go.Proofs.Ytbmfimojhcdnbaa.Srt
