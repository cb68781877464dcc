/-
  dom.grow: a depth-first way through the blocks that are reached.
-/
import Derived.Test.YtahjippocejphaaDma
import Derived.Test.YtahjippocejphaaDmb
namespace Go.Proofs.Ytahjippocejphaa.Dm
open Go.RowKit View Rd Copy Num Ty Srt Go.Proofs.Ytahjippocejphaa.Flo Go.Proofs.Ytahjippocejphaa.Lt

set_option linter.unusedVariables false

theorem underlying126 : Try.prog.underlying 126 = some (.slice 125) := by kernel_rfl
theorem info125 : (Try.prog.info? 125).map (fun i => (i.zero, i.size, i.bytes)) = some (some (.agg #[.int .i64 0, .int .i64 0]), 2, 16) := by kernel_rfl
theorem size125 : (Try.prog.info? 125).map (fun i => i.size) = some 2 := by kernel_rfl

/-- The place of a block, -1 where it has none. -/
def plc (L : List Nat) (b : Nat) : Int := if b ∈ L then (L.idxOf b : Int) else -1

def flatU (U : List (Int × Nat)) : List Value := U.flatMap (fun u => [.int .i64 u.1, .int .i64 (u.2 : Int)])

theorem flatU_snoc (U : List (Int × Nat)) (u : Int × Nat) : flatU (U ++ [u]) = flatU U ++ [.int .i64 u.1, .int .i64 (u.2 : Int)] := by simp [flatU]
theorem flatU_length (U : List (Int × Nat)) : (flatU U).length = U.length * 2 := by
  induction U with
  | nil => rfl
  | cons e W ih => simp [flatU] at *; omega

theorem kinds2 {w : World} {base base' z z' n n' : Nat} {v v' : Value} {xs xs' : List Value} (h : w.ownsRow base 3 z v n xs) (h' : w.ownsRow base' 125 z' v' n' xs') : ∀ g, v.ownBlock = some g → v'.ownBlock ≠ some g := by
  intro g e e'
  rcases h.2 with ⟨rfl, _⟩ | ⟨g1, cap, cur, rfl, _, hg, _⟩
  · simp [Value.ownBlock] at e
  · rcases h'.2 with ⟨rfl, _⟩ | ⟨g2, cap2, cur2, rfl, _, hg2, _⟩
    · simp [Value.ownBlock] at e'
    · simp [Value.ownBlock] at e e'
      subst e
      subst e'
      rw [hg] at hg2
      simp at hg2

/-- Grow's lists in memory: f's box, the tree's box, the row of places, and what lies from B0 on. -/
structure TM (F : FV) (fb tb PB B0 : Nat) (wr : World) (bv pv uv : Value) (L : List Nat) (P : List Int) (Q : List Nat) (U : List (Int × Nat)) : Prop where
  fa : FuncAt wr fb F
  c0 : wr.cell? ⟨tb, 0, none⟩ = some bv
  c1 : wr.cell? ⟨tb, 1, none⟩ = some pv
  c2 : wr.cell? ⟨tb, 2, none⟩ = some (.slice (some ⟨PB, 0, none⟩) F.blk.n F.blk.n)
  cz : ∀ i, wr.frozen? ⟨tb, i, none⟩ = false
  bo : wr.ownsRow B0 3 1 bv (ints L).length ((ints L).map (Value.int .i64))
  po : wr.ownsRow B0 3 1 pv P.length (P.map (Value.int .i64))
  pl : Ro wr PB F.blk.n (plc Q)
  uo : wr.ownsRow B0 125 2 uv U.length (flatU U)
  un : ∃ g cap, uv = .slice (some ⟨g, 0, none⟩) U.length cap
  dis : ∀ g, bv.ownBlock = some g → pv.ownBlock ≠ some g
  low : fb < B0 ∧ tb < B0 ∧ PB < B0 ∧ fb ≠ tb ∧ fb ≠ PB ∧ tb ≠ PB
  sz : B0 ≤ wr.heap.size

variable {F : FV} {fb tb PB B0 : Nat} {wr : World} {bv pv uv : Value} {L : List Nat} {P : List Int} {Q : List Nat} {U : List (Int × Nat)}

theorem TM.on (h : TM F fb tb PB B0 wr bv pv uv L P Q U) {w' : World} (hb : Below wr.heap.size wr w') : TM F fb tb PB B0 w' bv pv uv L P Q U :=
  ⟨h.fa.on hb, cell_on hb h.c0, cell_on hb h.c1, cell_on hb h.c2, fun i => by rw [hb.frozen (show tb < _ from World.block_lt_of_cell? _ _ h.c0)]; exact h.cz i, owns_on hb h.bo, owns_on hb h.po, h.pl.on hb, owns_on hb h.uo, h.un, h.dis, h.low, Nat.le_trans h.sz hb.size⟩

/-- What stays, where blocks from B0 on that are none of the rows' change. -/
theorem TM.keep {w' : World} {o : Option Nat} (h : TM F fb tb PB B0 wr bv pv uv L P Q U) (hz : wr.heap.size ≤ w'.heap.size) (hb : ∀ k, k < wr.heap.size → some k ≠ o → w'.heap[k]? = wr.heap[k]?) (ho : ∀ k, o = some k → B0 ≤ k) :
    FuncAt w' fb F ∧ w'.cell? ⟨tb, 0, none⟩ = some bv ∧ w'.cell? ⟨tb, 1, none⟩ = some pv ∧ w'.cell? ⟨tb, 2, none⟩ = some (.slice (some ⟨PB, 0, none⟩) F.blk.n F.blk.n) ∧ (∀ i, w'.frozen? ⟨tb, i, none⟩ = false) ∧ Ro w' PB F.blk.n (plc Q) ∧ B0 ≤ w'.heap.size := by
  have hl := h.low
  have ne : ∀ k, k < B0 → some k ≠ o := fun k hk e => by have := ho k e.symm; omega
  have kb : ∀ k, k < B0 → w'.heap[k]? = wr.heap[k]? := fun k hk => hb k (by have := h.sz; omega) (ne k hk)
  refine ⟨h.fa.kept (p := fun k => k = fb) ⟨hz, fun k hk => by subst hk; exact kb _ hl.1⟩ rfl, ?_, ?_, ?_, fun i => ?_, h.pl.at_block (kb _ hl.2.2.1), by have := h.sz; omega⟩
  · rw [World.cell?_of_block (w := wr) (kb tb hl.2.1)]; exact h.c0
  · rw [World.cell?_of_block (w := wr) (kb tb hl.2.1)]; exact h.c1
  · rw [World.cell?_of_block (w := wr) (kb tb hl.2.1)]; exact h.c2
  · rw [World.frozen?_of_block (w := wr) (kb tb hl.2.1)]; exact h.cz i

theorem own_in {w w' : World} {base e z n : Nat} {v : Value} {xs : List Value} {o : Option Nat} (h : w.ownsRow base e z v n xs) (hb : ∀ k, k < w.heap.size → some k ≠ o → w'.heap[k]? = w.heap[k]?) (ho : ∀ k, v.ownBlock = some k → some k ≠ o) : w'.ownsRow base e z v n xs := by
  refine ⟨h.1, ?_⟩
  rcases h.2 with h | ⟨g, cap, cur, h1, h2, h3, h4⟩
  · exact .inl h
  · exact .inr ⟨g, cap, cur, h1, h2, by rw [hb g (Array.getElem?_eq_some_iff.1 h3).1 (ho g (by rw [h1]; rfl))]; exact h3, h4⟩

/-- The tree's box is written. -/
theorem TM.box (h : TM F fb tb PB B0 wr bv pv uv L P Q U) (i : Nat) (v : Value) :
    (∀ k, k ≠ tb → (wr.setCell ⟨tb, i, none⟩ v).heap[k]? = wr.heap[k]?) ∧ FuncAt (wr.setCell ⟨tb, i, none⟩ v) fb F ∧ (∀ j, (wr.setCell ⟨tb, i, none⟩ v).frozen? ⟨tb, j, none⟩ = false) ∧ Ro (wr.setCell ⟨tb, i, none⟩ v) PB F.blk.n (plc Q) := by
  have hl := h.low
  have hb : ∀ k, k ≠ tb → (wr.setCell ⟨tb, i, none⟩ v).heap[k]? = wr.heap[k]? := fun k hk => Below.heap_setCell _ _ _ _ hk
  exact ⟨hb, h.fa.kept (p := fun k => k = fb) ⟨by simp, fun k hk => by subst hk; exact hb _ hl.2.2.2.1⟩ rfl, fun j => by rw [World.frozen?_setCell]; exact h.cz j, h.pl.at_block (hb _ (fun e => hl.2.2.2.2.2 e.symm))⟩

/-- One block more. -/
theorem TM.block (h : TM F fb tb PB B0 wr bv pv uv L P Q U) {x : Nat} {bv' : Value} {w2 : World} {ob : Obj}
    (hown : w2.ownsRow B0 3 1 bv' (ints L ++ [(x : Int)]).length ((ints L ++ [(x : Int)]).map (Value.int .i64))) (hg : (wr.alloc ob).grownBy w2 bv.ownBlock) (hat : bv'.ownBlock = bv.ownBlock ∨ bv'.ownBlock = some (wr.heap.size + 1)) :
    TM F fb tb PB B0 (w2.setCell ⟨tb, 0, none⟩ bv') bv' pv uv (L ++ [x]) P Q U := by
  have hsz := hg.size
  simp only [World.size_alloc] at hsz
  have hl := h.low
  have hs := h.sz
  have hb : ∀ k, k < wr.heap.size → some k ≠ bv.ownBlock → w2.heap[k]? = wr.heap[k]? := fun k hk hne => by rw [hg.block k (by simp; omega) hne, Below.heap_alloc _ _ _ hk]
  obtain ⟨k1, k2, k3, k4, k5, k6, k7⟩ := h.keep (w' := w2) (by omega) hb (fun k e => (h.bo.lt k e).1)
  have b2 : ∀ k, k ≠ tb → (w2.setCell ⟨tb, 0, none⟩ bv').heap[k]? = w2.heap[k]? := fun k hk => Below.heap_setCell _ _ _ _ hk
  have own2 : ∀ {base e z n : Nat} {v : Value} {xs : List Value}, B0 ≤ base → w2.ownsRow base e z v n xs → (w2.setCell ⟨tb, 0, none⟩ bv').ownsRow base e z v n xs := fun hbs ho => own_in (o := some tb) ho (fun k _ hne => b2 k (fun e => hne (by rw [e]))) (fun k hk e => by have := (ho.lt k hk).1; have := Option.some.inj e; omega)
  have e2 : ints (L ++ [x]) = ints L ++ [(x : Int)] := by simp [ints]
  refine ⟨k1.kept (p := fun k => k = fb) ⟨by simp, fun k hk => by subst hk; exact b2 _ hl.2.2.2.1⟩ rfl, cell_same k2, cell_other (ne_off (by omega)) k3, cell_other (ne_off (by omega)) k4, fun i => by rw [World.frozen?_setCell]; exact k5 i, by rw [e2]; exact own2 (Nat.le_refl _) hown, own2 (Nat.le_refl _) (own_in h.po hb (fun k hk e => h.dis k e.symm hk)), k6.at_block (b2 _ (fun e => hl.2.2.2.2.2 e.symm)), own2 (Nat.le_refl _) (own_in h.uo hb (fun k hk e => kinds2 h.bo h.uo k e.symm hk)), h.un, fun g e1 e3 => ?_, hl, by simp; omega⟩
  rcases hat with h' | h'
  · rw [h'] at e1; exact h.dis g e1 e3
  · rw [h'] at e1
    have := Option.some.inj e1
    have := (h.po.lt g e3).2
    omega

/-- Whence it was met. -/
theorem TM.parent (h : TM F fb tb PB B0 wr bv pv uv L P Q U) {y : Int} {pv' : Value} {w2 : World} {ob : Obj}
    (hown : w2.ownsRow B0 3 1 pv' (P ++ [y]).length ((P ++ [y]).map (Value.int .i64))) (hg : (wr.alloc ob).grownBy w2 pv.ownBlock) (hat : pv'.ownBlock = pv.ownBlock ∨ pv'.ownBlock = some (wr.heap.size + 1)) :
    TM F fb tb PB B0 (w2.setCell ⟨tb, 1, none⟩ pv') bv pv' uv L (P ++ [y]) Q U := by
  have hsz := hg.size
  simp only [World.size_alloc] at hsz
  have hl := h.low
  have hs := h.sz
  have hb : ∀ k, k < wr.heap.size → some k ≠ pv.ownBlock → w2.heap[k]? = wr.heap[k]? := fun k hk hne => by rw [hg.block k (by simp; omega) hne, Below.heap_alloc _ _ _ hk]
  obtain ⟨k1, k2, k3, k4, k5, k6, k7⟩ := h.keep (w' := w2) (by omega) hb (fun k e => (h.po.lt k e).1)
  have b2 : ∀ k, k ≠ tb → (w2.setCell ⟨tb, 1, none⟩ pv').heap[k]? = w2.heap[k]? := fun k hk => Below.heap_setCell _ _ _ _ hk
  have own2 : ∀ {base e z n : Nat} {v : Value} {xs : List Value}, B0 ≤ base → w2.ownsRow base e z v n xs → (w2.setCell ⟨tb, 1, none⟩ pv').ownsRow base e z v n xs := fun hbs ho => own_in (o := some tb) ho (fun k _ hne => b2 k (fun e => hne (by rw [e]))) (fun k hk e => by have := (ho.lt k hk).1; have := Option.some.inj e; omega)
  refine ⟨k1.kept (p := fun k => k = fb) ⟨by simp, fun k hk => by subst hk; exact b2 _ hl.2.2.2.1⟩ rfl, cell_other (ne_off (by omega)) k2, cell_same k3, cell_other (ne_off (by omega)) k4, fun i => by rw [World.frozen?_setCell]; exact k5 i, own2 (Nat.le_refl _) (own_in h.bo hb (fun k hk e => h.dis k hk e.symm)), own2 (Nat.le_refl _) hown, k6.at_block (b2 _ (fun e => hl.2.2.2.2.2 e.symm)), own2 (Nat.le_refl _) (own_in h.uo hb (fun k hk e => kinds2 h.po h.uo k e.symm hk)), h.un, fun g e1 e3 => ?_, hl, by simp; omega⟩
  rcases hat with h' | h'
  · rw [h'] at e3; exact h.dis g e1 e3
  · rw [h'] at e3
    have := Option.some.inj e3
    have := (h.bo.lt g e1).2
    omega

/-- Its place is told. -/
theorem TM.place {x : Nat} (h : TM F fb tb PB B0 wr bv pv uv (L ++ [x]) P L U) (hx : x < F.blk.n) (hn : x ∉ L) : TM F fb tb PB B0 (wr.setCell ⟨PB, x, none⟩ (.int .i64 L.length)) bv pv uv (L ++ [x]) P (L ++ [x]) U := by
  have hl := h.low
  have b2 : ∀ k, k ≠ PB → (wr.setCell ⟨PB, x, none⟩ (.int .i64 L.length)).heap[k]? = wr.heap[k]? := fun k hk => Below.heap_setCell _ _ _ _ hk
  have own2 : ∀ {base e z n : Nat} {v : Value} {xs : List Value}, B0 ≤ base → wr.ownsRow base e z v n xs → (wr.setCell ⟨PB, x, none⟩ (.int .i64 L.length)).ownsRow base e z v n xs := fun hbs ho => own_in (o := some PB) ho (fun k _ hne => b2 k (fun e => hne (by rw [e]))) (fun k hk e => by have := (ho.lt k hk).1; have := Option.some.inj e; omega)
  have co : ∀ i {u : Value}, wr.cell? ⟨tb, i, none⟩ = some u → (wr.setCell ⟨PB, x, none⟩ (.int .i64 L.length)).cell? ⟨tb, i, none⟩ = some u := fun i u hu => by rw [World.cell?_of_block (w := wr) (b2 tb hl.2.2.2.2.2)]; exact hu
  refine ⟨h.fa.kept (p := fun k => k = fb) ⟨by simp, fun k hk => by subst hk; exact b2 _ hl.2.2.2.2.1⟩ rfl, co 0 h.c0, co 1 h.c1, co 2 h.c2, fun i => by rw [World.frozen?_setCell]; exact h.cz i, own2 (Nat.le_refl _) h.bo, own2 (Nat.le_refl _) h.po, (h.pl.set hx _).congr (fun i hi => ?_), own2 (Nat.le_refl _) h.uo, h.un, h.dis, hl, by simp; exact h.sz⟩
  unfold plc
  by_cases e : i = x
  · subst e
    rw [if_pos rfl, if_pos (by simp)]
    rw [List.idxOf_append, if_neg hn]
    simp
  · rw [if_neg e]
    by_cases hm : i ∈ L
    · rw [if_pos hm, if_pos (by simp [hm]), List.idxOf_append, if_pos hm]
    · rw [if_neg hm, if_neg (by simp [hm, e])]

/-- A step is taken off. -/
theorem TM.pop {u : Int × Nat} (h : TM F fb tb PB B0 wr bv pv uv L P Q (U ++ [u])) {g cap : Nat} (hv : uv = .slice (some ⟨g, 0, none⟩) (U ++ [u]).length cap) : TM F fb tb PB B0 wr bv pv (.slice (some ⟨g, 0, none⟩) U.length cap) L P Q U := by
  refine ⟨h.fa, h.c0, h.c1, h.c2, h.cz, h.bo, h.po, h.pl, ?_, ⟨g, cap, rfl⟩, h.dis, h.low, h.sz⟩
  have := h.uo
  rw [hv, flatU_snoc, List.length_append] at this
  exact ownsRow_pop (flatU_length U) this

/-- A step is put on. -/
theorem TM.push (h : TM F fb tb PB B0 wr bv pv uv L P Q U) {u : Int × Nat} {uv' : Value} {w2 : World} {ob : Obj}
    (hown : w2.ownsRow B0 125 2 uv' (U.length + 1) (flatU U ++ [.int .i64 u.1, .int .i64 (u.2 : Int)])) (hg : (wr.alloc ob).grownBy w2 uv.ownBlock) : TM F fb tb PB B0 w2 bv pv uv' L P Q (U ++ [u]) := by
  have hsz := hg.size
  simp only [World.size_alloc] at hsz
  have hb : ∀ k, k < wr.heap.size → some k ≠ uv.ownBlock → w2.heap[k]? = wr.heap[k]? := fun k hk hne => by rw [hg.block k (by simp; omega) hne, Below.heap_alloc _ _ _ hk]
  obtain ⟨k1, k2, k3, k4, k5, k6, k7⟩ := h.keep (w' := w2) (by omega) hb (fun k e => (h.uo.lt k e).1)
  refine ⟨k1, k2, k3, k4, k5, own_in h.bo hb (fun k hk e => kinds2 h.bo h.uo k hk e.symm), own_in h.po hb (fun k hk e => kinds2 h.po h.uo k hk e.symm), k6, by rw [flatU_snoc, List.length_append]; exact hown, ?_, h.dis, h.low, k7⟩
  rcases hown.2 with ⟨_, h0⟩ | ⟨q, c, cur, hq, _⟩
  · omega
  · exact ⟨q, c, by rw [hq]; simp⟩

end Go.Proofs.Ytahjippocejphaa.Dm
