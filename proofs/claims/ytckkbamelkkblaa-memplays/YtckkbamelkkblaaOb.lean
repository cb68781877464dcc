/-
  Objects of cells in memory (chapter 10): how they lie, what stays when other memory is written, what each call does to them.
-/
import Derived.Test.YtckkbamelkkblaaView
import Derived.Maps.AppendAt
import Derived.Laws.AppendOwnNone
import Derived.Deep.RegionHeld3
import Derived.BigQuiet
import Derived.Deep.QuietTactic
namespace Go.Proofs.Ytckkbamelkkblaa.Ob
open Go.RowKit View

set_option linter.unusedVariables false

theorem hid {p : Prop} (h : p) : Hid p := h

abbrev slv (s : Sl) : Value := .slice s.a s.n s.c

def bk (s : Sl) : Nat := match s.a with | some a => a.block | none => 0

theorem bk_eq {s : Sl} {g o : Nat} (h : s.a = some ⟨g, o, none⟩) : bk s = g := by unfold bk; rw [h]

/-- Blocks that p does not name are as they were; the rest of the world too. -/
structure Chg (p : Nat → Prop) (w w' : World) : Prop where
  os : w'.os = w.os
  tape : w'.tape = w.tape
  output : w'.output = w.output
  size : w.heap.size ≤ w'.heap.size
  block : ∀ k, k < w.heap.size → ¬ p k → w'.heap[k]? = w.heap[k]?

theorem Chg.of_below {p : Nat → Prop} {w w' : World} (h : Below w.heap.size w w') : Chg p w w' := ⟨h.os, h.tape, h.output, h.size, fun k hk _ => h.block k hk⟩

theorem Chg.trans {p q : Nat → Prop} {a b c : World} (h : Chg p a b) (k : Chg q b c) (hq : ∀ x, q x → p x ∨ a.heap.size ≤ x) : Chg p a c :=
  ⟨k.os.trans h.os, k.tape.trans h.tape, k.output.trans h.output, Nat.le_trans h.size k.size, fun x hx hp => by
    rw [k.block x (Nat.lt_of_lt_of_le hx h.size) (fun e => by rcases hq x e with e | e; exact hp e; omega), h.block x hx hp]⟩

theorem Chg.below {p : Nat → Prop} {B : Nat} {w0 w w' : World} (h : Chg p w w') (b : Below B w0 w) (hB : B ≤ w.heap.size) (hp : ∀ x, p x → B ≤ x) : Below B w0 w' :=
  b.trans ⟨h.os, h.tape, h.output, h.size, fun k hk => h.block k (by omega) (fun e => by have := hp k e; omega)⟩

theorem Chg.cell {p : Nat → Prop} {w w' : World} (h : Chg p w w') {a : Addr} {v : Value} (hc : w.cell? a = some v) (hp : ¬ p a.block) : w'.cell? a = some v := by
  rw [World.cell?_of_block (w := w) (h.block _ (World.block_lt_of_cell? w a hc) hp)]; exact hc

/-- n objects: the row of their rows lies at place o of block M; each is a row of its own. -/
structure Obs (base : Nat) (w : World) (M o : Nat) (vs : Sl) (n : Nat) (S : Nat → Sl) (f : Nat → Nat → Int) : Prop where
  c : w.cell? ⟨M, o, none⟩ = some (slv vs)
  z : ∀ i, w.frozen? ⟨M, i, none⟩ = false
  low : M < base
  le : base ≤ w.heap.size
  own : w.ownsRow base 30 1 (slv vs) n ((List.range n).map fun i => slv (S i))
  obj : ∀ i, i < n → Ints w (S i) (f i)
  mine : ∀ i, i < n → Mine base w.heap.size w (S i)
  apart : ∀ i j, i < n → j < n → i ≠ j → 0 < (S i).n → 0 < (S j).n → bk (S i) ≠ bk (S j)
  off : ∀ i, i < n → 0 < (S i).n → some (bk (S i)) ≠ (slv vs).ownBlock

/-- The blocks that they are made of. -/
def Fp (M : Nat) (vs : Sl) (n : Nat) (S : Nat → Sl) (b : Nat) : Prop := b = M ∨ some b = (slv vs).ownBlock ∨ ∃ i, i < n ∧ 0 < (S i).n ∧ b = bk (S i)

variable {base M o n : Nat} {w w' : World} {vs : Sl} {S : Nat → Sl} {f : Nat → Nat → Int}

theorem Obs.mlt (h : Obs base w M o vs n S f) : M < w.heap.size := World.block_lt_of_cell? _ _ h.c

theorem Obs.lt (h : Obs base w M o vs n S f) {b : Nat} (hb : Fp M vs n S b) : b < w.heap.size := by
  rcases hb with rfl | e | ⟨i, hi, h0, rfl⟩
  · exact h.mlt
  · exact (h.own.lt b e.symm).2
  · obtain ⟨g, e, _, hg, _⟩ := h.mine i hi h0
    rw [bk_eq e]; exact hg

theorem Obs.ge (h : Obs base w M o vs n S f) {b : Nat} (hb : Fp M vs n S b) : b = M ∨ base ≤ b := by
  rcases hb with rfl | e | ⟨i, hi, h0, rfl⟩
  · exact .inl rfl
  · exact .inr (h.own.lt b e.symm).1
  · obtain ⟨g, e, hg, _, _⟩ := h.mine i hi h0
    rw [bk_eq e]; exact .inr hg

/-- They stay where their blocks do. -/
theorem Obs.keep (h : Obs base w M o vs n S f) (hz : w.heap.size ≤ w'.heap.size) (hb : ∀ b, b < w.heap.size → Fp M vs n S b → w'.heap[b]? = w.heap[b]?) : Obs base w' M o vs n S f := by
  have hM := hb M h.mlt (.inl rfl)
  have hob : ∀ i, i < n → ∀ g, (S i).a = some ⟨g, 0, none⟩ → 0 < (S i).n → w'.heap[g]? = w.heap[g]? := fun i hi g hg h0 => by
    have hF : Fp M vs n S g := .inr (.inr ⟨i, hi, h0, (bk_eq hg).symm⟩)
    exact hb g (h.lt hF) hF
  refine ⟨by rw [World.cell?_of_block (w := w) hM]; exact h.c, fun i => by rw [World.frozen?_of_block (w := w) hM]; exact h.z i, h.low, Nat.le_trans h.le hz, ⟨h.own.1, ?_⟩, fun i hi => ?_, fun i hi h0 => ?_, h.apart, h.off⟩
  · rcases h.own.2 with q | ⟨g, cap, cur, h1, h2, h3, h4⟩
    · exact .inl q
    · have hF : Fp M vs n S g := .inr (.inl (by rw [h1]; rfl))
      exact .inr ⟨g, cap, cur, h1, h2, by rw [hb g (h.lt hF) hF]; exact h3, h4⟩
  · obtain ⟨h1, h2, h3, h4⟩ := h.obj i hi
    refine ⟨h1, h2, h3, fun h0 => ?_⟩
    obtain ⟨b, off, ha, hc⟩ := h4 h0
    obtain ⟨g, ha', _⟩ := h.mine i hi h0
    rw [ha'] at ha
    obtain ⟨rfl, rfl⟩ : g = b ∧ 0 = off := by simpa using ha
    exact ⟨g, 0, ha', fun j hj => by rw [World.cell?_of_block (w := w) (hob i hi g ha' h0)]; exact hc j hj⟩
  · obtain ⟨g, ha', h1, h2, h3⟩ := h.mine i hi h0
    exact ⟨g, ha', h1, by omega, fun j => by rw [World.frozen?_of_block (w := w) (hob i hi g ha' h0)]; exact h3 j⟩

theorem Obs.on (h : Obs base w M o vs n S f) (hb : Below w.heap.size w w') : Obs base w' M o vs n S f := h.keep hb.size (fun b hl _ => hb.block b hl)

theorem Obs.chg {p : Nat → Prop} (h : Obs base w M o vs n S f) (hc : Chg p w w') (hp : ∀ b, p b → ¬ Fp M vs n S b) : Obs base w' M o vs n S f :=
  h.keep hc.size (fun b hl hF => hc.block b hl (fun e => hp b e hF))

/-- The row of rows holds them. -/
theorem Obs.row (h : Obs base w M o vs n S f) (hn : n ≤ 1000000) : vs.n = n ∧ Sls w vs S := by
  obtain ⟨sa, sn, sc⟩ := vs
  rcases h.own.2 with ⟨e, rfl⟩ | ⟨g, cap, cur, e, hb, hg, hnc, hm, hs, ht⟩
  · simp [slv] at e
    obtain ⟨rfl, rfl, rfl⟩ := e
    exact ⟨rfl, Nat.le_refl _, Nat.zero_le _, fun _ => rfl, fun h => absurd h (by simp)⟩
  · simp [slv] at e
    obtain ⟨rfl, rfl, rfl⟩ := e
    refine ⟨rfl, hnc, by show sn ≤ _; omega, fun e => by simp at e, fun h0 => ⟨g, 0, rfl, fun i hi => ?_⟩⟩
    have hi' : i < sn := hi
    have := h.own.cellAt i (by omega)
    rw [Nat.zero_add, this]
    simp [hi']

theorem underlying27 : Try.prog.underlying 27 = some (.slice 30) := by kernel_rfl

theorem underlying30 : Try.prog.underlying 30 = some (.slice 2) := by kernel_rfl

theorem size2 : (Try.prog.info? 2).map (fun i => i.size) = some 1 := by kernel_rfl

theorem size30 : (Try.prog.info? 30).map (fun i => i.size) = some 1 := by kernel_rfl

theorem infoL : (Try.prog.info? 30).map (fun i => (i.zero, i.size, i.bytes)) = some (some (.slice none 0 0), 1, 24) := by kernel_rfl

theorem info2 : (Try.prog.info? 2).map (fun i => (i.zero, i.size, i.bytes)) = some (some (.int .i64 0), 1, 8) := by kernel_rfl

theorem row_at {s : Sl} {F : Nat → Sl} (h : Sls w s F) {k : Nat} (hk : k < s.n) :
    ∃ b o, (∀ wx, (Instr.indexAt 27 (.slice s.a s.n s.c) (.int .i64 k)).run Try.prog wx = .ok (.pointer (some ⟨b, o, none⟩)) wx) ∧ w.cell? ⟨b, o, none⟩ = some (.slice (F k).a (F k).n (F k).c) := by
  obtain ⟨b, off, ha, hc⟩ := h.2.2.2 (by omega)
  exact ⟨b, off + k * 1, index_row ha underlying27 size30 hk, by rw [Nat.mul_one]; exact hc k hk⟩

theorem int_at {s : Sl} {F : Nat → Int} (h : Ints w s F) {k : Nat} (hk : k < s.n) :
    ∃ b o, (∀ wx, (Instr.indexAt 30 (.slice s.a s.n s.c) (.int .i64 k)).run Try.prog wx = .ok (.pointer (some ⟨b, o, none⟩)) wx) ∧ w.cell? ⟨b, o, none⟩ = some (.int .i64 (F k)) := by
  obtain ⟨b, off, ha, hc⟩ := h.2.2.2 (by omega)
  exact ⟨b, off + k * 1, index_row ha underlying30 size2 hk, by rw [Nat.mul_one]; exact hc k hk⟩

/-- An object's cell is written. -/
theorem Obs.set (h : Obs base w M o vs n S f) {i k g : Nat} (hi : i < n) (hk : k < (S i).n) (hg : (S i).a = some ⟨g, 0, none⟩) (v : Int) :
    Obs base (w.setCell ⟨g, k, none⟩ (.int .i64 v)) M o vs n S (fun a b => if a = i ∧ b = k then v else f a b) ∧ Chg (Fp M vs n S) w (w.setCell ⟨g, k, none⟩ (.int .i64 v)) := by
  have hgb : bk (S i) = g := bk_eq hg
  obtain ⟨g', hg', hge, hgl, hgz⟩ := h.mine i hi (by omega)
  rw [hg] at hg'
  obtain rfl : g = g' := by simpa using hg'
  have hbl : ∀ b, b ≠ g → (w.setCell ⟨g, k, none⟩ (.int .i64 v)).heap[b]? = w.heap[b]? := fun b hb => Below.heap_setCell _ _ _ _ hb
  have hMg : M ≠ g := by have := h.low; omega
  refine ⟨⟨by rw [World.cell?_of_block (w := w) (hbl M hMg)]; exact h.c, fun j => by rw [World.frozen?_setCell]; exact h.z j, h.low, by rw [World.size_setCell]; exact h.le, ⟨h.own.1, ?_⟩, fun j hj => ?_, fun j hj h0 => ?_, h.apart, h.off⟩, ⟨rfl, rfl, rfl, by rw [World.size_setCell]; exact Nat.le_refl _, fun b _ hp => hbl b (fun e => hp (.inr (.inr ⟨i, hi, by omega, by rw [hgb]; exact e⟩)))⟩⟩
  · rcases h.own.2 with q | ⟨r, cap, cur, h1, h2, h3, h4⟩
    · exact .inl q
    · have : r ≠ g := fun e => h.off i hi (by omega) (by rw [hgb, h1, e]; rfl)
      exact .inr ⟨r, cap, cur, h1, h2, by rw [hbl r this]; exact h3, h4⟩
  · obtain ⟨h1, h2, h3, h4⟩ := h.obj j hj
    refine ⟨h1, h2, h3, fun h0 => ?_⟩
    obtain ⟨b, off, ha, hc⟩ := h4 h0
    by_cases e : j = i
    · subst e
      rw [hg] at ha
      obtain ⟨rfl, rfl⟩ : g = b ∧ 0 = off := by simpa using ha
      refine ⟨g, 0, hg, fun t ht => ?_⟩
      by_cases et : t = k
      · subst et
        rw [Nat.zero_add]
        simp only [and_self, if_true]
        exact cell_same (by have := hc t ht; rwa [Nat.zero_add] at this)
      · rw [World.cell?_setCell_other (h := ne_off (by omega)), hc t ht]
        simp [et]
    · obtain ⟨g2, hg2, _⟩ := h.mine j hj h0
      rw [hg2] at ha
      obtain ⟨rfl, rfl⟩ : g2 = b ∧ 0 = off := by simpa using ha
      have : g2 ≠ g := fun q => h.apart j i hj hi e h0 (by omega) (by rw [bk_eq hg2, hgb, q])
      refine ⟨g2, 0, hg2, fun t ht => ?_⟩
      rw [World.cell?_of_block (w := w) (hbl g2 this), hc t ht]
      simp [e]
  · obtain ⟨g2, hg2, h1, h2, h3⟩ := h.mine j hj h0
    exact ⟨g2, hg2, h1, by rw [World.size_setCell]; exact h2, fun t => by rw [World.frozen?_setCell]; exact h3 t⟩

/-- One object more. -/
theorem Obs.push (h : Obs base w M o vs n S f) {w2 w4 : World} {v4 : Sl} {s : Sl} {F : Nat → Int} {ob : Obj} (hb2 : Below w.heap.size w w2) (hs : Ints w2 s F) (hm : Mine w.heap.size w2.heap.size w2 s)
    (own4 : w4.ownsRow base 30 1 (slv v4) (n + 1) ((List.range n).map (fun i => slv (S i)) ++ [slv s])) (gr : (w2.alloc ob).grownBy w4 (slv vs).ownBlock) (hat : (slv v4).ownBlock = (slv vs).ownBlock ∨ (slv v4).ownBlock = some (w2.heap.size + 1)) :
    Obs base (w4.setCell ⟨M, o, none⟩ (slv v4)) M o v4 (n + 1) (fun i => if i = n then s else S i) (fun i => if i = n then F else f i) ∧ Chg (Fp M vs n S) w (w4.setCell ⟨M, o, none⟩ (slv v4)) ∧
      ∀ b, Fp M v4 (n + 1) (fun i => if i = n then s else S i) b → Fp M vs n S b ∨ w.heap.size ≤ b := by
  have z2 := hb2.size
  have z4 := gr.size
  simp only [World.size_alloc] at z4
  have z0 := h.le
  have vl := h.own.lt
  have kb : ∀ b, b < w2.heap.size → some b ≠ (slv vs).ownBlock → w4.heap[b]? = w2.heap[b]? := fun b hb hne => by rw [gr.block b (by simp; omega) hne, Below.heap_alloc _ _ _ hb]
  have kM : ∀ b, b ≠ M → (w4.setCell ⟨M, o, none⟩ (slv v4)).heap[b]? = w4.heap[b]? := fun b hb => Below.heap_setCell _ _ _ _ hb
  have nM : some M ≠ (slv vs).ownBlock := fun e => by have := (vl M e.symm).1; have := h.low; omega
  have hM4 : w4.heap[M]? = w.heap[M]? := by rw [kb M (Nat.lt_of_lt_of_le h.mlt z2) nM, hb2.block M h.mlt]
  have hold : ∀ i, i < n → 0 < (S i).n → ∀ g, (S i).a = some ⟨g, 0, none⟩ → (w4.setCell ⟨M, o, none⟩ (slv v4)).heap[g]? = w.heap[g]? := fun i hi h0 g hg => by
    obtain ⟨g', hg', h1, h2, _⟩ := h.mine i hi h0
    rw [hg] at hg'
    obtain rfl : g = g' := by simpa using hg'
    rw [kM g (by have := h.low; omega), kb g (by omega) (by have := h.off i hi h0; rwa [bk_eq hg] at this), hb2.block g h2]
  have hnew : ∀ g, 0 < s.n → s.a = some ⟨g, 0, none⟩ → w.heap.size ≤ g ∧ g < w2.heap.size ∧ (w4.setCell ⟨M, o, none⟩ (slv v4)).heap[g]? = w2.heap[g]? := fun g h0 hg => by
    obtain ⟨g', hg', h1, h2, _⟩ := hm h0
    rw [hg] at hg'
    obtain rfl : g = g' := by simpa using hg'
    refine ⟨h1, h2, ?_⟩
    rw [kM g (by have := h.mlt; omega), kb g h2 (fun e => by have := (vl g e.symm).2; omega)]
  have noff : ∀ b, b < w2.heap.size → some b ≠ (slv vs).ownBlock → some b ≠ (slv v4).ownBlock := fun b hb hne e => by
    rcases hat with h' | h'
    · rw [h'] at e; exact hne e
    · rw [h'] at e; have := Option.some.inj e; omega
  refine ⟨⟨cell_same (u := slv vs) (by rw [World.cell?_of_block (w := w) hM4]; exact h.c), fun i => by rw [World.frozen?_setCell, World.frozen?_of_block (w := w) hM4]; exact h.z i, h.low, by rw [World.size_setCell]; omega, ?_, fun i hi => ?_, fun i hi h0 => ?_, fun i j hi hj hne h0 h0' => ?_, fun i hi h0 => ?_⟩, ⟨?_, ?_, ?_, by rw [World.size_setCell]; omega, fun b hb hp => ?_⟩, fun b hb => ?_⟩
  · have e : (List.range (n + 1)).map (fun i => slv (if i = n then s else S i)) = (List.range n).map (fun i => slv (S i)) ++ [slv s] := by
      rw [List.range_succ, List.map_append]
      congr 1
      · refine List.map_congr_left fun i hi => ?_
        have : i < n := by simpa using hi
        rw [if_neg (by omega)]
      · simp
    rw [e]
    refine ⟨own4.1, ?_⟩
    rcases own4.2 with q | ⟨g, cap, cur, h1, h2, h3, h4⟩
    · exact .inl q
    · exact .inr ⟨g, cap, cur, h1, h2, by rw [kM g (by have := h.low; omega)]; exact h3, h4⟩
  · by_cases e : i = n
    · subst e
      simp only [if_true]
      obtain ⟨h1, h2, h3, h4⟩ := hs
      refine ⟨h1, h2, h3, fun h0 => ?_⟩
      obtain ⟨b, off, ha, hc⟩ := h4 h0
      obtain ⟨g, hg, _⟩ := hm h0
      rw [hg] at ha
      obtain ⟨rfl, rfl⟩ : g = b ∧ 0 = off := by simpa using ha
      exact ⟨g, 0, hg, fun t ht => by rw [World.cell?_of_block (w := w2) (hnew g h0 hg).2.2]; exact hc t ht⟩
    · simp only [if_neg e]
      have hi' : i < n := by omega
      obtain ⟨h1, h2, h3, h4⟩ := h.obj i hi'
      refine ⟨h1, h2, h3, fun h0 => ?_⟩
      obtain ⟨b, off, ha, hc⟩ := h4 h0
      obtain ⟨g, hg, _⟩ := h.mine i hi' h0
      rw [hg] at ha
      obtain ⟨rfl, rfl⟩ : g = b ∧ 0 = off := by simpa using ha
      exact ⟨g, 0, hg, fun t ht => by rw [World.cell?_of_block (w := w) (hold i hi' h0 g hg)]; exact hc t ht⟩
  · by_cases e : i = n
    · subst e
      simp only [if_true] at h0 ⊢
      obtain ⟨g, hg, h1, h2, h3⟩ := hm h0
      exact ⟨g, hg, by omega, by rw [World.size_setCell]; omega, fun t => by rw [World.frozen?_of_block (w := w2) (hnew g h0 hg).2.2]; exact h3 t⟩
    · simp only [if_neg e] at h0 ⊢
      have hi' : i < n := by omega
      obtain ⟨g, hg, h1, h2, h3⟩ := h.mine i hi' h0
      exact ⟨g, hg, h1, by rw [World.size_setCell]; omega, fun t => by rw [World.frozen?_of_block (w := w) (hold i hi' h0 g hg)]; exact h3 t⟩
  · by_cases e : i = n
    · subst e
      have ne : ¬ j = i := fun q => hne q.symm
      simp only [if_true, if_neg ne] at h0 h0' ⊢
      obtain ⟨g, hg, h1, _⟩ := hm h0
      obtain ⟨g', hg', _, h2, _⟩ := h.mine j (by omega) h0'
      rw [bk_eq hg, bk_eq hg']; omega
    · simp only [if_neg e] at h0 ⊢
      by_cases e' : j = n
      · subst e'
        simp only [if_true] at h0' ⊢
        obtain ⟨g, hg, h1, _⟩ := hm h0'
        obtain ⟨g', hg', _, h2, _⟩ := h.mine i (by omega) h0
        rw [bk_eq hg, bk_eq hg']; omega
      · simp only [if_neg e'] at h0' ⊢
        exact h.apart i j (by omega) (by omega) hne h0 h0'
  · by_cases e : i = n
    · subst e
      simp only [if_true] at h0 ⊢
      obtain ⟨g, hg, h1, h2, _⟩ := hm h0
      rw [bk_eq hg]
      exact noff g h2 (fun e => by have := (vl g e.symm).2; omega)
    · simp only [if_neg e] at h0 ⊢
      have hi' : i < n := by omega
      obtain ⟨g, hg, _, h2, _⟩ := h.mine i hi' h0
      have := h.off i hi' h0
      rw [bk_eq hg] at this ⊢
      exact noff g (by omega) this
  · exact gr.os.trans hb2.os
  · exact gr.tape.trans hb2.tape
  · exact gr.output.trans hb2.output
  · rw [kM b (fun e => hp (.inl e)), kb b (by omega) (fun e => hp (.inr (.inl e))), hb2.block b hb]
  · rcases hb with rfl | e | ⟨i, hi, h0, rfl⟩
    · exact .inl (.inl rfl)
    · rcases hat with h' | h'
      · rw [h'] at e; exact .inl (.inr (.inl e))
      · rw [h'] at e; have := Option.some.inj e; exact .inr (by omega)
    · by_cases e : i = n
      · subst e
        simp only [if_true] at h0 ⊢
        obtain ⟨g, hg, h1, _⟩ := hm h0
        rw [bk_eq hg]; exact .inr h1
      · simp only [if_neg e] at h0 ⊢
        exact .inl (.inr (.inr ⟨i, by omega, h0, rfl⟩))

end Go.Proofs.Ytckkbamelkkblaa.Ob
