/-
  Dmc, Dmd: laid together.
-/
import Derived.Test.YtolipafcoolpgaaGreatDma
import Derived.Test.YtolipafcoolpgaaGreatJ11
/-
  dom.grow: a depth-first way through the blocks that are reached.
-/
namespace Go.Proofs.YtolipafcoolpgaaGreat.Dm
open Go.RowKit View Rd Copy Num Ty Srt Flo Go.Proofs.YtolipafcoolpgaaGreat.Lt

set_option linter.unusedVariables false

theorem underlying229 : Tryz.prog.underlying 229 = some (.slice 228) := by kernel_rfl
theorem info228 : (Tryz.prog.info? 228).map (fun i => (i.zero, i.size, i.bytes)) = some (some (.agg #[.int .i64 0, .int .i64 0]), 2, 16) := by kernel_rfl
theorem size228 : (Tryz.prog.info? 228).map (fun i => i.size) = some 2 := by kernel_rfl

def plc (L : List Nat) (b : Nat) : Int := if b ∈ L then (L.idxOf b : Int) else -1

def flatU (U : List (Int × Nat)) : List Value := U.flatMap (fun u => [.int .i64 u.1, .int .i64 (u.2 : Int)])

theorem flatU_snoc (U : List (Int × Nat)) (u : Int × Nat) : flatU (U ++ [u]) = flatU U ++ [.int .i64 u.1, .int .i64 (u.2 : Int)] := by simp [flatU]
theorem flatU_length (U : List (Int × Nat)) : (flatU U).length = U.length * 2 := by
 induction U with
 | nil => rfl
 | cons e W ih => simp [flatU] at *; omega

theorem kinds2 {w : World} {base base' z z' n n' : Nat} {v v' : Value} {xs xs' : List Value} (h : w.ownsRow base 3 z v n xs) (h' : w.ownsRow base' 228 z' v' n' xs') : ∀ g, v.ownBlock = some g → v'.ownBlock ≠ some g := by
 intro g e e'
 rcases h.2 with ⟨rfl, _⟩ | ⟨g1, cap, cur, rfl, _, hg, _⟩
 ·simp [Value.ownBlock] at e
 ·rcases h'.2 with ⟨rfl, _⟩ | ⟨g2, cap2, cur2, rfl, _, hg2, _⟩
  ·simp [Value.ownBlock] at e'
  ·simp [Value.ownBlock] at e e'
   subst e
   subst e'
   rw [hg] at hg2
   simp at hg2

structure TM (F : FV) (fb tb PB B0 : Nat) (wr : World) (bv pv uv : Value) (L : List Nat) (P : List Int) (Q : List Nat) (U : List (Int × Nat)) : Prop where
 fa : FuncAt wr fb F
 c0 : wr.cell? ⟨tb, 0, none⟩ = some bv
 c1 : wr.cell? ⟨tb, 1, none⟩ = some pv
 c2 : wr.cell? ⟨tb, 2, none⟩ = some (.slice (some ⟨PB, 0, none⟩) F.blk.n F.blk.n)
 cz : ∀ i, wr.frozen? ⟨tb, i, none⟩ = false
 bo : wr.ownsRow B0 3 1 bv (ints L).length ((ints L).map (Value.int .i64))
 po : wr.ownsRow B0 3 1 pv P.length (P.map (Value.int .i64))
 pl : Ro wr PB F.blk.n (plc Q)
 uo : wr.ownsRow B0 228 2 uv U.length (flatU U)
 un : ∃ g cap, uv = .slice (some ⟨g, 0, none⟩) U.length cap
 dis : ∀ g, bv.ownBlock = some g → pv.ownBlock ≠ some g
 low : fb < B0 ∧ tb < B0 ∧ PB < B0 ∧ fb ≠ tb ∧ fb ≠ PB ∧ tb ≠ PB
 sz : B0 ≤ wr.heap.size

variable {F : FV} {fb tb PB B0 : Nat} {wr : World} {bv pv uv : Value} {L : List Nat} {P : List Int} {Q : List Nat} {U : List (Int × Nat)}

theorem TM.on (h : TM F fb tb PB B0 wr bv pv uv L P Q U) {w' : World} (hb : Below wr.heap.size wr w') : TM F fb tb PB B0 w' bv pv uv L P Q U :=
 ⟨h.fa.on hb, cell_on hb h.c0, cell_on hb h.c1, cell_on hb h.c2, fun i => by rw [hb.frozen (show tb < _ from World.block_lt_of_cell? _ _ h.c0)]; exact h.cz i, owns_on hb h.bo, owns_on hb h.po, h.pl.on hb, owns_on hb h.uo, h.un, h.dis, h.low, Nat.le_trans h.sz hb.size⟩

theorem TM.keep {w' : World} {o : Option Nat} (h : TM F fb tb PB B0 wr bv pv uv L P Q U) (hz : wr.heap.size ≤ w'.heap.size) (hb : ∀ k, k < wr.heap.size → some k ≠ o → w'.heap[k]? = wr.heap[k]?) (ho : ∀ k, o = some k → B0 ≤ k) :
  FuncAt w' fb F ∧ w'.cell? ⟨tb, 0, none⟩ = some bv ∧ w'.cell? ⟨tb, 1, none⟩ = some pv ∧ w'.cell? ⟨tb, 2, none⟩ = some (.slice (some ⟨PB, 0, none⟩) F.blk.n F.blk.n) ∧ (∀ i, w'.frozen? ⟨tb, i, none⟩ = false) ∧ Ro w' PB F.blk.n (plc Q) ∧ B0 ≤ w'.heap.size := by
 have hl := h.low
 have ne : ∀ k, k < B0 → some k ≠ o := fun k hk e => by have := ho k e.symm; omega
 have kb : ∀ k, k < B0 → w'.heap[k]? = wr.heap[k]? := fun k hk => hb k (by have := h.sz; omega) (ne k hk)
 refine ⟨h.fa.kept (p := fun k => k = fb) ⟨hz, fun k hk => by subst hk; exact kb _ hl.1⟩ rfl, ?_, ?_, ?_, fun i => ?_, h.pl.at_block (kb _ hl.2.2.1), by have := h.sz; omega⟩
 ·rw [World.cell?_of_block (w := wr) (kb tb hl.2.1)]; exact h.c0
 ·rw [World.cell?_of_block (w := wr) (kb tb hl.2.1)]; exact h.c1
 ·rw [World.cell?_of_block (w := wr) (kb tb hl.2.1)]; exact h.c2
 ·rw [World.frozen?_of_block (w := wr) (kb tb hl.2.1)]; exact h.cz i

theorem own_in {w w' : World} {base e z n : Nat} {v : Value} {xs : List Value} {o : Option Nat} (h : w.ownsRow base e z v n xs) (hb : ∀ k, k < w.heap.size → some k ≠ o → w'.heap[k]? = w.heap[k]?) (ho : ∀ k, v.ownBlock = some k → some k ≠ o) : w'.ownsRow base e z v n xs := by
 refine ⟨h.1, ?_⟩
 rcases h.2 with h | ⟨g, cap, cur, h1, h2, h3, h4⟩
 ·exact .inl h
 ·exact .inr ⟨g, cap, cur, h1, h2, by rw [hb g (Array.getElem?_eq_some_iff.1 h3).1 (ho g (by rw [h1]; rfl))]; exact h3, h4⟩

theorem TM.block (h : TM F fb tb PB B0 wr bv pv uv L P Q U) {x : Nat} {bv' : Value} {w2 : World} {ob : Obj}
  (hown : w2.ownsRow B0 3 1 bv' (ints L ++ [(x : Int)]).length ((ints L ++ [(x : Int)]).map (Value.int .i64))) (hg : (wr.alloc ob).grownBy w2 bv.ownBlock) (hat : bv'.ownBlock = bv.ownBlock ∨ bv'.ownBlock = some (wr.heap.size + 1)) :
  TM F fb tb PB B0 (w2.setCell ⟨tb, 0, none⟩ bv') bv' pv uv (L ++ [x]) P Q U := by
 have hsz := hg.size
 simp only [World.size_alloc] at hsz
 have hl := h.low
 have hs := h.sz
 have hb : ∀ k, k < wr.heap.size → some k ≠ bv.ownBlock → w2.heap[k]? = wr.heap[k]? := fun k hk hne => by rw [hg.block k (by simp; omega) hne, Below.heap_alloc _ _ _ hk]
 obtain ⟨k1, k2, k3, k4, k5, k6, k7⟩ := h.keep (w' := w2) (by omega) hb (fun k e => (h.bo.lt k e).1)
 have b2 : ∀ k, k ≠ tb → (w2.setCell ⟨tb, 0, none⟩ bv').heap[k]? = w2.heap[k]? := fun k hk => Below.heap_setCell _ _ _ _ hk
 have own2 : ∀ {base e z n : Nat} {v : Value} {xs : List Value}, B0 ≤ base → w2.ownsRow base e z v n xs → (w2.setCell ⟨tb, 0, none⟩ bv').ownsRow base e z v n xs := fun hbs ho => own_in (o := some tb) ho (fun k _ hne => b2 k (fun e => hne (by rw [e]))) (fun k hk e => by have := (ho.lt k hk).1; have := Option.some.inj e; omega)
 have e2 : ints (L ++ [x]) = ints L ++ [(x : Int)] := by simp [ints]
 refine ⟨k1.kept (p := fun k => k = fb) ⟨by simp, fun k hk => by subst hk; exact b2 _ hl.2.2.2.1⟩ rfl, cell_same k2, cell_other (ne_off (by omega)) k3, cell_other (ne_off (by omega)) k4, fun i => by rw [World.frozen?_setCell]; exact k5 i, by rw [e2]; exact own2 (Nat.le_refl _) hown, own2 (Nat.le_refl _) (own_in h.po hb (fun k hk e => h.dis k e.symm hk)), k6.at_block (b2 _ (fun e => hl.2.2.2.2.2 e.symm)), own2 (Nat.le_refl _) (own_in h.uo hb (fun k hk e => kinds2 h.bo h.uo k e.symm hk)), h.un, fun g e1 e3 => ?_, hl, by simp; omega⟩
 rcases hat with h' | h'
 ·rw [h'] at e1; exact h.dis g e1 e3
 ·rw [h'] at e1
  have := Option.some.inj e1
  have := (h.po.lt g e3).2
  omega

theorem TM.parent (h : TM F fb tb PB B0 wr bv pv uv L P Q U) {y : Int} {pv' : Value} {w2 : World} {ob : Obj}
  (hown : w2.ownsRow B0 3 1 pv' (P ++ [y]).length ((P ++ [y]).map (Value.int .i64))) (hg : (wr.alloc ob).grownBy w2 pv.ownBlock) (hat : pv'.ownBlock = pv.ownBlock ∨ pv'.ownBlock = some (wr.heap.size + 1)) :
  TM F fb tb PB B0 (w2.setCell ⟨tb, 1, none⟩ pv') bv pv' uv L (P ++ [y]) Q U := by
 have hsz := hg.size
 simp only [World.size_alloc] at hsz
 have hl := h.low
 have hs := h.sz
 have hb : ∀ k, k < wr.heap.size → some k ≠ pv.ownBlock → w2.heap[k]? = wr.heap[k]? := fun k hk hne => by rw [hg.block k (by simp; omega) hne, Below.heap_alloc _ _ _ hk]
 obtain ⟨k1, k2, k3, k4, k5, k6, k7⟩ := h.keep (w' := w2) (by omega) hb (fun k e => (h.po.lt k e).1)
 have b2 : ∀ k, k ≠ tb → (w2.setCell ⟨tb, 1, none⟩ pv').heap[k]? = w2.heap[k]? := fun k hk => Below.heap_setCell _ _ _ _ hk
 have own2 : ∀ {base e z n : Nat} {v : Value} {xs : List Value}, B0 ≤ base → w2.ownsRow base e z v n xs → (w2.setCell ⟨tb, 1, none⟩ pv').ownsRow base e z v n xs := fun hbs ho => own_in (o := some tb) ho (fun k _ hne => b2 k (fun e => hne (by rw [e]))) (fun k hk e => by have := (ho.lt k hk).1; have := Option.some.inj e; omega)
 refine ⟨k1.kept (p := fun k => k = fb) ⟨by simp, fun k hk => by subst hk; exact b2 _ hl.2.2.2.1⟩ rfl, cell_other (ne_off (by omega)) k2, cell_same k3, cell_other (ne_off (by omega)) k4, fun i => by rw [World.frozen?_setCell]; exact k5 i, own2 (Nat.le_refl _) (own_in h.bo hb (fun k hk e => h.dis k hk e.symm)), own2 (Nat.le_refl _) hown, k6.at_block (b2 _ (fun e => hl.2.2.2.2.2 e.symm)), own2 (Nat.le_refl _) (own_in h.uo hb (fun k hk e => kinds2 h.po h.uo k e.symm hk)), h.un, fun g e1 e3 => ?_, hl, by simp; omega⟩
 rcases hat with h' | h'
 ·rw [h'] at e3; exact h.dis g e1 e3
 ·rw [h'] at e3
  have := Option.some.inj e3
  have := (h.bo.lt g e1).2
  omega

theorem TM.place {x : Nat} (h : TM F fb tb PB B0 wr bv pv uv (L ++ [x]) P L U) (hx : x < F.blk.n) (hn : x ∉ L) : TM F fb tb PB B0 (wr.setCell ⟨PB, x, none⟩ (.int .i64 L.length)) bv pv uv (L ++ [x]) P (L ++ [x]) U := by
 have hl := h.low
 have b2 : ∀ k, k ≠ PB → (wr.setCell ⟨PB, x, none⟩ (.int .i64 L.length)).heap[k]? = wr.heap[k]? := fun k hk => Below.heap_setCell _ _ _ _ hk
 have own2 : ∀ {base e z n : Nat} {v : Value} {xs : List Value}, B0 ≤ base → wr.ownsRow base e z v n xs → (wr.setCell ⟨PB, x, none⟩ (.int .i64 L.length)).ownsRow base e z v n xs := fun hbs ho => own_in (o := some PB) ho (fun k _ hne => b2 k (fun e => hne (by rw [e]))) (fun k hk e => by have := (ho.lt k hk).1; have := Option.some.inj e; omega)
 have co : ∀ i {u : Value}, wr.cell? ⟨tb, i, none⟩ = some u → (wr.setCell ⟨PB, x, none⟩ (.int .i64 L.length)).cell? ⟨tb, i, none⟩ = some u := fun i u hu => by rw [World.cell?_of_block (w := wr) (b2 tb hl.2.2.2.2.2)]; exact hu
 refine ⟨h.fa.kept (p := fun k => k = fb) ⟨by simp, fun k hk => by subst hk; exact b2 _ hl.2.2.2.2.1⟩ rfl, co 0 h.c0, co 1 h.c1, co 2 h.c2, fun i => by rw [World.frozen?_setCell]; exact h.cz i, own2 (Nat.le_refl _) h.bo, own2 (Nat.le_refl _) h.po, (h.pl.set hx _).congr (fun i hi => ?_), own2 (Nat.le_refl _) h.uo, h.un, h.dis, hl, by simp; exact h.sz⟩
 unfold plc
 by_cases e : i = x
 ·subst e
  rw [if_pos rfl, if_pos (by simp)]
  rw [List.idxOf_append, if_neg hn]
  simp
 ·rw [if_neg e]
  by_cases hm : i ∈ L
  ·rw [if_pos hm, if_pos (by simp [hm]), List.idxOf_append, if_pos hm]
  ·rw [if_neg hm, if_neg (by simp [hm, e])]

theorem TM.pop {u : Int × Nat} (h : TM F fb tb PB B0 wr bv pv uv L P Q (U ++ [u])) {g cap : Nat} (hv : uv = .slice (some ⟨g, 0, none⟩) (U ++ [u]).length cap) : TM F fb tb PB B0 wr bv pv (.slice (some ⟨g, 0, none⟩) U.length cap) L P Q U := by
 refine ⟨h.fa, h.c0, h.c1, h.c2, h.cz, h.bo, h.po, h.pl, ?_, ⟨g, cap, rfl⟩, h.dis, h.low, h.sz⟩
 have := h.uo
 rw [hv, flatU_snoc, List.length_append] at this
 exact ownsRow_pop (flatU_length U) this

theorem TM.push (h : TM F fb tb PB B0 wr bv pv uv L P Q U) {u : Int × Nat} {uv' : Value} {w2 : World} {ob : Obj}
  (hown : w2.ownsRow B0 228 2 uv' (U.length + 1) (flatU U ++ [.int .i64 u.1, .int .i64 (u.2 : Int)])) (hg : (wr.alloc ob).grownBy w2 uv.ownBlock) : TM F fb tb PB B0 w2 bv pv uv' L P Q (U ++ [u]) := by
 have hsz := hg.size
 simp only [World.size_alloc] at hsz
 have hb : ∀ k, k < wr.heap.size → some k ≠ uv.ownBlock → w2.heap[k]? = wr.heap[k]? := fun k hk hne => by rw [hg.block k (by simp; omega) hne, Below.heap_alloc _ _ _ hk]
 obtain ⟨k1, k2, k3, k4, k5, k6, k7⟩ := h.keep (w' := w2) (by omega) hb (fun k e => (h.uo.lt k e).1)
 refine ⟨k1, k2, k3, k4, k5, own_in h.bo hb (fun k hk e => kinds2 h.bo h.uo k hk e.symm), own_in h.po hb (fun k hk e => kinds2 h.po h.uo k hk e.symm), k6, by rw [flatU_snoc, List.length_append]; exact hown, ?_, h.dis, h.low, k7⟩
 rcases hown.2 with ⟨_, h0⟩ | ⟨q, c, cur, hq, _⟩
 ·omega
 ·exact ⟨q, c, by rw [hq]; simp⟩

end Go.Proofs.YtolipafcoolpgaaGreat.Dm

/-
  dom.grow, walked.
-/
namespace Go.Proofs.YtolipafcoolpgaaGreat.Dm
open Go.RowKit View Rd Copy Num Ty Srt Flo Go.Proofs.YtolipafcoolpgaaGreat.Lt

set_option linter.unusedVariables false

def parL (par : Nat → Nat) (m : Nat) : List Int := (List.range m).map (fun p => if p = 0 then -1 else (par p : Int))

def GroS (F : FV) (L : List Nat) (P : List Int) (U : List (Int × Nat)) : Prop :=
 (L = [] ∧ P = [] ∧ U = [(-1, 0)]) ∨ ∃ par U', U = U'.map (fun u : Nat × Nat => ((u.1 : Int), u.2)) ∧ Gro (su F) L par U' ∧ P = parL par L.length

def GrowIs (F : FV) (w : World) (e : Ending) (w' : World) : Prop := ∃ (L : List Nat) (par : Nat → Nat) (g1 c1 g2 c2 g3 : Nat), e = .returned (.agg #[.slice (some ⟨g1, 0, none⟩) L.length c1, .slice (some ⟨g2, 0, none⟩) L.length c2, .slice (some ⟨g3, 0, none⟩) F.blk.n F.blk.n]) ∧ Gro (su F) L par [] ∧
 Ro w' g1 L.length (fun i => ((L.getD i 0 : Nat) : Int)) ∧ Ro w' g2 L.length (fun p => if p = 0 then -1 else (par p : Int)) ∧ Ro w' g3 F.blk.n (plc L) ∧ w.heap.size ≤ g1 ∧ w.heap.size ≤ g2 ∧ w.heap.size ≤ g3 ∧ L.length ≤ c1 ∧ L.length ≤ c2 ∧ Below w.heap.size w w'

theorem new_cell (A : World) (c : Array Value) (t : TypeId) (i : Nat) (v : Value) (h : c[i]? = some v) : (A.alloc (.cells c t)).cell? ⟨A.heap.size, i, none⟩ = some v := by
 have hg := heap_alloc_new A (.cells c t)
 unfold World.cell?
 rw [hg]
 exact h
theorem new_froz (A : World) (c : Array Value) (t : TypeId) (i : Nat) : (A.alloc (.cells c t)).frozen? ⟨A.heap.size, i, none⟩ = false := by
 have hg := heap_alloc_new A (.cells c t)
 unfold World.frozen?
 rw [hg]
 simp

theorem way_lt {F : FV} (h0 : 0 < F.blk.n) {y : Nat} (h : Flo.Way (su F) 0 y) : y < F.blk.n := by
 cases h with
 | refl => exact h0
 | step _ hc => exact su_lt F _ _ hc

theorem map_snoc {U' : List (Int × Nat)} {u : Int × Nat} {U2 : List (Nat × Nat)} (h : U' ++ [u] = U2.map (fun u : Nat × Nat => ((u.1 : Int), u.2))) : ∃ U3 v, U2 = U3 ++ [v] ∧ U' = U3.map (fun u : Nat × Nat => ((u.1 : Int), u.2)) ∧ u = ((v.1 : Int), v.2) := by
 rcases List.eq_nil_or_concat U2 with rfl | ⟨U3, v, rfl⟩
 ·simp at h
 ·simp only [List.concat_eq_append, List.map_append, List.map_cons, List.map_nil] at h
  have := List.append_inj' h rfl
  refine ⟨U3, v, by simp, this.1, by simpa using this.2⟩

theorem GroS.skip {F : FV} {L : List Nat} {P : List Int} {U' : List (Int × Nat)} {uf : Int} {x : Nat} (h : GroS F L P (U' ++ [(uf, x)])) (hx : x ∈ L) : GroS F L P U' := by
 rcases h with ⟨rfl, _, _⟩ | ⟨par, U2, e1, e2, e3⟩
 ·simp at hx
 ·obtain ⟨U3, v, rfl, e4, e5⟩ := map_snoc e1
  have e6 : x = v.2 := congrArg Prod.snd e5
  exact .inr ⟨par, U3, e4, e2.skip (by rw [← e6]; exact hx), e3⟩

theorem parL_next (par : Nat → Nat) {m f : Nat} (hm : 0 < m) : parL (parN par m f) (m + 1) = parL par m ++ [(f : Int)] := by
 unfold parL
 rw [List.range_succ, List.map_append]
 congr 1
 ·apply List.map_congr_left
  intro p hp
  have := List.mem_range.1 hp
  simp [parN, show p ≠ m by omega]
 ·simp [parN, show m ≠ 0 by omega]

theorem GroS.meet {F : FV} {L : List Nat} {P : List Int} {U' : List (Int × Nat)} {uf : Int} {x : Nat} (h : GroS F L P (U' ++ [(uf, x)])) (hx : x ∉ L) : GroS F (L ++ [x]) (P ++ [uf]) (U' ++ (su F x).map (fun v => ((L.length : Int), v))) := by
 rcases h with ⟨rfl, rfl, e⟩ | ⟨par, U2, e1, e2, e3⟩
 ·have e' : U' = [] ∧ uf = -1 ∧ x = 0 := by
   cases U' with
   | nil => simp at e; exact ⟨rfl, e.1, e.2⟩
   | cons a b => simp at e
  obtain ⟨rfl, rfl, rfl⟩ := e'
  exact .inr ⟨fun _ => 0, (su F 0).map (fun v => (0, v)), by simp, by simpa using Gro.start (su F), by simp [parL]⟩
 ·obtain ⟨U3, v, rfl, e4, e5⟩ := map_snoc e1
  have e6 : x = v.2 := congrArg Prod.snd e5
  have e7 : uf = (v.1 : Int) := congrArg Prod.fst e5
  subst e6
  refine .inr ⟨parN par L.length v.1, U3 ++ (su F v.2).map (fun y => (L.length, y)), by rw [e4]; simp, e2.meet hx, ?_⟩
  rw [List.length_append]
  show _ = parL _ (L.length + 1)
  rw [parL_next par e2.pos, e3, e7]

theorem owns_len {w : World} {base e z n : Nat} {v : Value} {xs : List Value} (h : w.ownsRow base e z v n xs) : ∃ a c, v = .slice a n c := by
 rcases h.2 with ⟨rfl, rfl⟩ | ⟨g, cap, cur, rfl, _⟩
 ·exact ⟨none, 0, rfl⟩
 ·exact ⟨some ⟨g, 0, none⟩, cap, rfl⟩

theorem append_step {ops : Array Oper} {rest : List Oper} {o : Oper} {a : Act} {Q : Exit → Act → World → Prop} {w : World} (hgd : o.guard = none) (s x : Operand)
  (ho : o.op = .call { callee := .builtin .append, args := #[s, x], argTypes := #[229, 229] })
  (base : Nat) (v : Value) (n : Nat) (xs : List Value) (hs : a.eval s = v) (y z : Int) (hown : w.ownsRow base 228 2 v n xs)
  (hx : a.eval x = .slice (some ⟨w.heap.size, 0, none⟩) 1 1)
  (hsm : n ≤ 1000000) (hbase : base ≤ w.heap.size)
  (h : ∀ v' w', w'.ownsRow base 228 2 v' (n + 1) (xs ++ [.int .i64 y, .int .i64 z]) → (w.alloc (.cells #[.int .i64 y, .int .i64 z] 228)).grownBy w' v.ownBlock → (v'.ownBlock = v.ownBlock ∨ v'.ownBlock = some (w.heap.size + 1)) → wpList Tryz.prog ops Q rest (a.put o.dst v') w') : wpList Tryz.prog ops Q (o :: rest) a (w.alloc (.cells #[.int .i64 y, .int .i64 z] 228)) := by
 obtain ⟨i0, hi, hz0, hz1, hz2⟩ := info_parts info228
 refine wpList_append_own_at _ hgd s x 229 ho base 228 i0 (.agg #[.int .i64 0, .int .i64 0]) 2 16 underlying229 hi hz0 hz1 hz2 rfl (by decide) v _ _ hs (hown.alloc _) ⟨w.heap.size, 0, none⟩ 1 1 [.int .i64 y, .int .i64 z] hx rfl (cell_two_new _ _ _ _) (by intro u hu; simp at hu; rcases hu with rfl | rfl <;> rfl) (by simp only [maxLen]; omega) (by omega) (by simp; omega) ?_
 intro v' w' h1 h2 _ h4
 exact h v' w' h1 h2 (by simpa using h4)

theorem step_at {g n cap x : Nat} (hx : x < n) : ∀ wx, (Instr.indexAt 229 (.slice (some ⟨g, 0, none⟩) n cap) (.int .i64 x)).run Tryz.prog wx = .ok (.pointer (some ⟨g, x * 2, none⟩)) wx := by
 have := index_row (s := ⟨some ⟨g, 0, none⟩, n, cap⟩) rfl underlying229 size228 hx
 simpa using this

theorem cut_step {g c n : Nat} {cap : Nat} (h : n ≤ cap) : ∀ wx, (Instr.slice 229 (.slice (some ⟨g, 0, none⟩) c cap) none (some (.int .i64 n)) none).run Tryz.prog wx = .ok (.slice (some ⟨g, 0, none⟩) n cap) wx := by
 intro wx
 have he : Tryz.prog.elem 229 = 228 := by unfold Program.elem; rw [underlying229]
 obtain ⟨i, hi, hi'⟩ := Option.map_eq_some_iff.1 size228
 have hr := run_slice_h (P := Tryz.prog) wx 229 (some ⟨g, 0, none⟩) c cap (by rw [he]; exact underlying229) .i64 n (by omega) (by omega)
 rw [he] at hr
 rw [hr]
 simp [sizeOf, typeInfo, hi, hi', sliced, Addr.add_lit]

theorem TM.top {F : FV} {fb tb PB B0 : Nat} {wr : World} {bv pv : Value} {L : List Nat} {P : List Int} {Q : List Nat} {U : List (Int × Nat)} {u : Int × Nat} {g cap : Nat} (h : TM F fb tb PB B0 wr bv pv (.slice (some ⟨g, 0, none⟩) (U ++ [u]).length cap) L P Q (U ++ [u])) :
  wr.cell? ⟨g, U.length * 2, none⟩ = some (.int .i64 u.1) ∧ wr.cell? ⟨g, U.length * 2 + 1, none⟩ = some (.int .i64 (u.2 : Int)) ∧ B0 ≤ g ∧ g < wr.heap.size ∧ (U.length + 1 ≤ cap) := by
 have hc := h.uo.cells (g := g) rfl
 have hl := h.uo.lt g rfl
 have e1 : (flatU (U ++ [u]))[U.length * 2]? = some (.int .i64 u.1) := by rw [flatU_snoc, List.getElem?_append_right (by rw [flatU_length]; omega), flatU_length]; simp
 have e2 : (flatU (U ++ [u]))[U.length * 2 + 1]? = some (.int .i64 (u.2 : Int)) := by rw [flatU_snoc, List.getElem?_append_right (by rw [flatU_length]; omega), flatU_length]; simp
 have k1 := hc _ _ e1
 have k2 := hc _ _ e2
 rw [Addr.add_lit] at k1 k2
 refine ⟨by simpa using k1, by simpa using k2, hl.1, hl.2, ?_⟩
 rcases h.uo.2 with ⟨h0, _⟩ | ⟨g', c', cur, hv, _, hg, hn, _⟩
 ·cases h0
 ·cases hv; simpa using hn

set_option maxRecDepth 10000 in
set_option maxHeartbeats 4000000 in
theorem grow_any (F : FV) (w : World) (hF : In w F) (hl : Light F) (hj : Jng F) (h0 : 0 < F.blk.n) : Calls Tryz.prog 166 #[F.val] w fun e w' => GrowIs F w e w' := by
 have HF := hid hF
 have HL := hid hl
 have HJ := hid hj
 have gb := hl.blk
 have t0 : ((F.blk.n : Int) == 0) = false := by simp; omega
 clear hF hl hj
 go_enter Tryz.func166, Tryz.ntmps166
 go_wp2_with fail
 have hx0 : (((w.alloc (.cells (fcells F) 36)).alloc (.cells #[.slice none 0 0, .slice none 0 0, .slice none 0 0] 207)).alloc (.cells #[.int .i64 (-1)] 3)).cell? ⟨w.heap.size + 1 + 1, 0, none⟩ = some (.int .i64 (-1)) := by
  have := new_cell ((w.alloc (.cells (fcells F) 36)).alloc (.cells #[.slice none 0 0, .slice none 0 0, .slice none 0 0] 207)) #[.int .i64 (-1)] 3 0 _ rfl
  simp only [World.size_alloc] at this
  exact this
 have hz0 : ∀ i, i < 3 → (((w.alloc (.cells (fcells F) 36)).alloc (.cells #[.slice none 0 0, .slice none 0 0, .slice none 0 0] 207)).alloc (.cells #[.int .i64 (-1)] 3)).cell? ⟨w.heap.size + 1, i, none⟩ = some (.slice none 0 0) := fun i hi => by
  have h3 : (#[.slice none 0 0, .slice none 0 0, .slice none 0 0] : Array Value)[i]? = some (.slice none 0 0) := by
   have h3 : i = 0 ∨ i = 1 ∨ i = 2 := by omega
   rcases h3 with rfl | rfl | rfl <;> rfl
  have := new_cell (w.alloc (.cells (fcells F) 36)) #[.slice none 0 0, .slice none 0 0, .slice none 0 0] 207 i _ h3
  simp only [World.size_alloc] at this
  exact cell_on (new (same _) _) this
 have hzf : ∀ i, (((w.alloc (.cells (fcells F) 36)).alloc (.cells #[.slice none 0 0, .slice none 0 0, .slice none 0 0] 207)).alloc (.cells #[.int .i64 (-1)] 3)).frozen? ⟨w.heap.size + 1, i, none⟩ = false := fun i => by
  have := new_froz (w.alloc (.cells (fcells F) 36)) #[.slice none 0 0, .slice none 0 0, .slice none 0 0] 207 i
  simp only [World.size_alloc] at this
  rw [(new (same ((w.alloc (.cells (fcells F) 36)).alloc (.cells #[.slice none 0 0, .slice none 0 0, .slice none 0 0] 207))) (.cells #[.int .i64 (-1)] 3)).frozen (by simp)]
  exact this
 refine (repeat_any (-1) (w.heap.size + 1 + 1) F.blk.n gb _ hx0).mono ?_
 rintro e w1 ⟨PB, rfl, hr1, hP1, hb1⟩
 simp only [World.size_alloc] at hP1
 have B1 := hid (View.more (new (new (new (same w) _) _) _) hb1)
 have FA1 := hid (show FuncAt w1 w.heap.size F from (((FuncAt.alloc w F).on (new (same _) _)).on (new (same _) _)).on hb1)
 have R1 := hid (show Ro w1 PB F.blk.n (plc []) from (Ro.of_row hr1).congr (fun i hi => by simp [plc, hi]))
 have Z1 := hid (show (∀ i, i < 3 → w1.cell? ⟨w.heap.size + 1, i, none⟩ = some (.slice none 0 0)) ∧ ∀ i, w1.frozen? ⟨w.heap.size + 1, i, none⟩ = false from ⟨fun i hi => cell_on hb1 (hz0 i hi), fun i => by rw [hb1.frozen (by simp)]; exact hzf i⟩)
 obtain ⟨c0, c1, c2, c3, c4⟩ := FA1.out
 have zz := hb1.size
 simp only [World.size_alloc] at zz
 have hwl : w.heap.size < w1.heap.size := by omega
 clear hr1 hb1 hx0 hz0 hzf
 go_wp2_with fail
 obtain ⟨tb, htb⟩ : ∃ tb, w1.heap.size = tb := ⟨_, rfl⟩
 have hPBl := R1.out.lt
 have tm : TM F w.heap.size tb PB (tb + 1) ((w1.alloc (.cells #[.slice none 0 0, .slice none 0 0, .slice (some ⟨PB, 0, none⟩) F.blk.n F.blk.n] 207)).alloc (.cells #[.int .i64 (-1), .int .i64 0] 228)) (.slice none 0 0) (.slice none 0 0) (.slice (some ⟨tb + 1, 0, none⟩) 1 1) [] [] [] [(-1, 0)] := by
  have nc := fun i v h => new_cell w1 #[.slice none 0 0, .slice none 0 0, .slice (some ⟨PB, 0, none⟩) F.blk.n F.blk.n] 207 i v h
  rw [htb] at nc
  refine ⟨(FA1.out.on (new (same _) _)).on (new (same _) _), cell_on (new (same _) _) (nc 0 _ rfl), cell_on (new (same _) _) (nc 1 _ rfl), cell_on (new (same _) _) (nc 2 _ rfl), fun i => ?_, World.ownsRow_nil _ _ _ _, World.ownsRow_nil _ _ _ _, (R1.out.on (new (same _) _)).on (new (same _) _), ?_, ⟨_, _, rfl⟩, fun g e => by simp [Value.ownBlock] at e, ⟨by omega, by omega, by omega, by omega, by omega, by omega⟩, by simp; omega⟩
  ·rw [(new (same (w1.alloc (.cells #[.slice none 0 0, .slice none 0 0, .slice (some ⟨PB, 0, none⟩) F.blk.n F.blk.n] 207))) _).frozen (by simp; omega)]
   have := new_froz w1 #[.slice none 0 0, .slice none 0 0, .slice (some ⟨PB, 0, none⟩) F.blk.n F.blk.n] 207 i
   rw [htb] at this
   exact this
  ·have := World.ownsRow_lit (base := tb + 1) (size := 2) (e := 228) (w1.alloc (.cells #[.slice none 0 0, .slice none 0 0, .slice (some ⟨PB, 0, none⟩) F.blk.n F.blk.n] 207)) #[.int .i64 (-1), .int .i64 0] 1 (by simp; omega) (by decide) rfl
   simp only [World.size_alloc, htb] at this
   simpa [flatU] using this
 have TM0 := hid tm
 have BB0 := hid (show Below w.heap.size w ((w1.alloc (.cells #[.slice none 0 0, .slice none 0 0, .slice (some ⟨PB, 0, none⟩) F.blk.n F.blk.n] 207)).alloc (.cells #[.int .i64 (-1), .int .i64 0] 228)) from new (new B1.out _) _)
 have RC0 := hid (show (∀ i, i < 3 → ((w1.alloc (.cells #[.slice none 0 0, .slice none 0 0, .slice (some ⟨PB, 0, none⟩) F.blk.n F.blk.n] 207)).alloc (.cells #[.int .i64 (-1), .int .i64 0] 228)).cell? ⟨w.heap.size + 1, i, none⟩ = some (.slice none 0 0)) ∧ ∀ i, ((w1.alloc (.cells #[.slice none 0 0, .slice none 0 0, .slice (some ⟨PB, 0, none⟩) F.blk.n F.blk.n] 207)).alloc (.cells #[.int .i64 (-1), .int .i64 0] 228)).frozen? ⟨w.heap.size + 1, i, none⟩ = false from ⟨fun i hi => cell_on (new (new (same _) _) _) (Z1.out.1 i hi), fun i => by rw [(new (new (same w1) _) _).frozen (by show w.heap.size + 1 < _; omega)]; exact Z1.out.2 i⟩)
 obtain ⟨W, hW⟩ : ∃ W, (w1.alloc (.cells #[.slice none 0 0, .slice none 0 0, .slice (some ⟨PB, 0, none⟩) F.blk.n F.blk.n] 207)).alloc (.cells #[.int .i64 (-1), .int .i64 0] 228) = W := ⟨_, rfl⟩
 rw [hW] at TM0 BB0 RC0
 simp only [htb, hW]
 clear hW tm c0 c1 c2 c3 c4
 go_loopg [4] (F.blk.n * 21 + 1) (fun k uv wr => ∃ bv pv L P U, TM F w.heap.size tb PB (tb + 1) wr bv pv uv L P L U ∧ GroS F L P U ∧ Below w.heap.size w wr ∧ wr.heap[w.heap.size + 1]? = W.heap[w.heap.size + 1]? ∧ (F.blk.n - L.length) * 21 + U.length ≤ k ∧ (F.blk.n - L.length) * 21 + U.length ≤ 1200)
 case atStart => exact ⟨_, _, _, _, _, TM0.out, .inl ⟨rfl, rfl, rfl⟩, BB0.out, rfl, by simp, by simp; omega⟩
 case round =>
  clear TM0 BB0
  obtain ⟨bv, pv, L, P, U, ht, hg, hb, hrc, hk, hk4⟩ := hrel
  have HK4 := hid hk4
  obtain ⟨ug, ucap, hun⟩ := ht.un
  subst hun
  have HT := hid ht
  have HG := hid hg
  have HB := hid (And.intro hb hrc)
  have HK := hid hk
  clear ht hg hb hrc hk hk4
  rcases List.eq_nil_or_concat U with hU | ⟨U', u, hU⟩
  ·subst hU
   obtain ⟨par, hgr, hP⟩ : ∃ par, Gro (su F) L par [] ∧ P = parL par L.length := by
    rcases HG.out with ⟨_, _, h⟩ | ⟨par, U', h1, h2, h3⟩
    ·cases h
    ·cases U' with
     | nil => exact ⟨par, h2, h3⟩
     | cons a b => simp at h1
   have lp := hgr.pos
   obtain ⟨g1, k1, e1, r1, b1⟩ := ro_of_owns HT.out.bo (by simp; omega) rfl
   obtain ⟨g2, k2, e2, r2, b2⟩ := ro_of_owns HT.out.po (by rw [hP]; simp [parL]; omega) rfl
   have e3 : (ints L).length = L.length := by simp
   have e4 : P.length = L.length := by rw [hP]; simp [parL]
   rw [e3] at e1 r1
   rw [e4] at e2 r2
   have n1 : L.length ≤ k1 := by
    have := HT.out.bo
    rw [e1, e3] at this
    rcases this.2 with ⟨h, _⟩ | ⟨g', c', cur, hv, _, hg, hn, _⟩
    ·cases h
    ·cases hv; exact hn
   have n2 : L.length ≤ k2 := by
    have := HT.out.po
    rw [e2, e4] at this
    rcases this.2 with ⟨h, _⟩ | ⟨g', c', cur, hv, _, hg, hn, _⟩
    ·cases h
    ·cases hv; exact hn
   have FIN := hid (show Gro (su F) L par [] ∧ Ro wr g1 L.length (fun i => ((L.getD i 0 : Nat) : Int)) ∧ Ro wr g2 L.length (fun p => if p = 0 then -1 else (par p : Int)) ∧ Ro wr PB F.blk.n (plc L) from ⟨hgr, r1.congr (fun i hi => getD_ints L i hi), r2.congr (fun i hi => by rw [hP]; simp [parL, List.getD, hi]), HT.out.pl⟩)
   have c0 := HT.out.c0
   have c1 := HT.out.c1
   have c2 := HT.out.c2
   rw [e1] at c0
   rw [e2] at c1
   have rc : ∀ i, i < 3 → wr.cell? ⟨w.heap.size + 1, i, none⟩ = some (.slice none 0 0) := fun i hi => by rw [World.cell?_of_block (w := W) HB.out.2]; exact RC0.out.1 i hi
   have rf : ∀ i, wr.frozen? ⟨w.heap.size + 1, i, none⟩ = false := fun i => by rw [World.frozen?_of_block (w := W) HB.out.2]; exact RC0.out.2 i
   have rc0 := rc 0 (by omega)
   have rc1 := rc 1 (by omega)
   have rc2 := rc 2 (by omega)
   have HN := hid (And.intro n1 (And.intro n2 (And.intro b1 b2)))
   clear hgr hP lp r1 r2 e1 e2 e3 e4 n1 n2 b1 b2 rc HG
   go_wp2_with fail
   refine bodyPost_ret (v := .agg #[.slice (some ⟨g1, 0, none⟩) L.length k1, .slice (some ⟨g2, 0, none⟩) L.length k2, .slice (some ⟨PB, 0, none⟩) F.blk.n F.blk.n]) (by rw [results_cell rfl]; go_simp) rfl ?_
   have kz : ∀ g, g ≠ w.heap.size + 1 → (((wr.setCell ⟨w.heap.size + 1, 0, none⟩ (.slice (some ⟨g1, 0, none⟩) L.length k1)).setCell ⟨w.heap.size + 1, 1, none⟩ (.slice (some ⟨g2, 0, none⟩) L.length k2)).setCell ⟨w.heap.size + 1, 2, none⟩ (.slice (some ⟨PB, 0, none⟩) F.blk.n F.blk.n)).heap[g]? = wr.heap[g]? := fun g hg => by
    rw [Below.heap_setCell _ _ _ _ hg, Below.heap_setCell _ _ _ _ hg, Below.heap_setCell _ _ _ _ hg]
   obtain ⟨q1, q2, q3, q4⟩ := HN.out
   have := FIN.out
   refine ⟨L, par, g1, k1, g2, k2, PB, rfl, FIN.out.1, FIN.out.2.1.at_block (kz _ (by omega)), FIN.out.2.2.1.at_block (kz _ (by omega)), FIN.out.2.2.2.at_block (kz _ (by omega)), by omega, by omega, by omega, q1, q2, ((HB.out.1.setCell (by show _ ≤ w.heap.size + 1; omega) _).setCell (by show _ ≤ w.heap.size + 1; omega) _).setCell (by show _ ≤ w.heap.size + 1; omega) _⟩
  ·simp only [List.concat_eq_append] at hU
   subst hU
   obtain ⟨uf, x⟩ := u
   obtain ⟨h1, h2, h3, h4, h5⟩ := HT.out.top
   have hlen : (U' ++ [(uf, x)]).length = U'.length + 1 := by simp
   have hxn : x < F.blk.n := by
    rcases HG.out with ⟨_, _, h⟩ | ⟨par, U2, e1, e2, e3⟩
    ·have := congrArg (fun l => l.getLast?) h
     simp at this
     omega
    ·have : (uf, x) ∈ U2.map (fun u : Nat × Nat => ((u.1 : Int), u.2)) := by rw [← e1]; simp
     obtain ⟨v, hv, hv2⟩ := List.mem_map.1 this
     have h6 := (e2.ent v hv).2.1
     have h7 : v.2 = x := congrArg Prod.snd hv2
     rw [← h7]
     exact su_lt F _ _ h6
   have hLn : L.length ≤ F.blk.n ∧ (x ∉ L → L.length + 1 ≤ F.blk.n) := by
    rcases HG.out with ⟨rfl, _, h⟩ | ⟨par, U2, e1, e2, e3⟩
    ·exact ⟨by simp, fun _ => by simp; omega⟩
    ·have hlt : ∀ y ∈ L, y < F.blk.n := fun y hy => way_lt h0 (e2.way y hy)
     exact ⟨length_le_of_lt _ _ e2.nodup hlt, fun hx => by
      have := length_le_of_lt F.blk.n (L ++ [x]) (List.nodup_append.2 ⟨e2.nodup, by simp, fun a ha b hb => by simp at hb; rintro rfl; exact hx (hb ▸ ha)⟩) (fun y hy => by
       rcases List.mem_append.1 hy with h | h
       ·exact hlt y h
       ·simp at h; omega)
      simpa using this⟩
   obtain ⟨k, hkk⟩ : ∃ k, U'.length = k := ⟨_, rfl⟩
   rw [hkk] at h1 h2 h5 hlen
   rw [hlen]
   have i1 := step_at (g := ug) (cap := ucap) (Nat.lt_succ_self k)
   have i2 := cut_step (g := ug) (c := k + 1) (n := k) (cap := ucap) (by omega)
   have i3 := int_at (g := PB) (c := F.blk.n) hxn
   have c0 := HT.out.c0
   have c2 := HT.out.c2
   have p1 := HT.out.pl.cell x hxn
   have hlo := HT.out.low
   obtain ⟨l1, l2, l3, l4, l5, l6⟩ := hlo
   have hsz := HT.out.sz
   have z1 : tb < wr.heap.size := by omega
   have z2 : PB < wr.heap.size := by omega
   have z3 : w.heap.size < wr.heap.size := by omega
   have HKK := hid (And.intro hkk hlen)
   have hkb : k ≤ 1200 := by have := HK4.out; rw [hlen] at this; omega
   clear hkk hlen
   have T1 := hid (HT.out.on (new (same wr) (.cells #[.int .i64 uf, .int .i64 x] 228)))
   by_cases hxL : x ∈ L
   ·have t1 : (plc L x != -1) = true := by unfold plc; rw [if_pos hxL]; simp
    have HXL := hid hxL
    clear hxL
    go_wp2_with fail
    go_roundg ((F.blk.n - L.length) * 21 + k)
    case measure => have := HK.out; rw [HKK.out.2] at this; omega
    case rel =>
     have tp := T1.out.pop (by rw [HKK.out.2])
     rw [HKK.out.1] at tp
     exact ⟨bv, pv, L, P, U', tp, HG.out.skip HXL.out, new HB.out.1 _, by rw [Below.heap_alloc _ _ _ (by omega)]; exact HB.out.2, by rw [HKK.out.1]; exact Nat.le_refl _, by have := HK4.out; rw [HKK.out.2] at this; rw [HKK.out.1]; omega⟩
   ·have t1 : plc L x = -1 := by unfold plc; rw [if_neg hxL]
    rw [t1] at p1
    have HXL := hid hxL
    obtain ⟨ba, bc, hbv⟩ := owns_len HT.out.bo
    obtain ⟨m, hm⟩ : ∃ m, L.length = m := ⟨_, rfl⟩
    have hbv2 : bv = .slice ba m bc := by rw [hbv]; simp [hm]
    subst hbv2
    obtain ⟨pa, pc, hpv⟩ := owns_len HT.out.po
    subst hpv
    have c1 := HT.out.c1
    have cz := HT.out.cz
    have HM := hid hm
    have hm16 : m + 1 ≤ 48 := by have := hLn.2 hxL; omega
    have hmn : m + 1 ≤ F.blk.n := by have := hLn.2 hxL; omega
    have hh0 : ∀ i v, (#[.int .i64 uf, .int .i64 x] : Array Value)[i]? = some v → (wr.alloc (.cells #[.int .i64 uf, .int .i64 x] 228)).cell? ⟨wr.heap.size, i, none⟩ = some v := fun i v h => new_cell wr _ _ i v h
    have HH0 := hid hh0
    obtain ⟨W1, hW1⟩ : ∃ W1, wr.alloc (.cells #[.int .i64 uf, .int .i64 x] 228) = W1 := ⟨_, rfl⟩
    have W1z := hid (show W1.heap.size = wr.heap.size + 1 by rw [← hW1]; simp)
    have B1' := hid (show Below w.heap.size w W1 ∧ W1.heap[w.heap.size + 1]? = W.heap[w.heap.size + 1]? by rw [← hW1]; exact ⟨new HB.out.1 _, by rw [Below.heap_alloc _ _ _ (by omega)]; exact HB.out.2⟩)
    rw [hW1] at HH0 T1
    obtain ⟨N1, hN1⟩ : ∃ N1, wr.heap.size = N1 := ⟨_, rfl⟩
    rw [hN1] at W1z HH0
    have e1 := HH0.out 0 _ rfl
    have e2 := HH0.out 1 _ rfl
    have d0 := T1.out.c0
    have d1 := T1.out.c1
    have d2 := T1.out.c2
    have dp := T1.out.pl.cell x hxn
    rw [t1] at dp
    have hN1z : N1 < W1.heap.size := by have := W1z.out; omega
    clear hxL hbv hm hh0 c0 c1 c2 p1 cz
    have lo1 : ∀ g, (Value.slice ba m bc).ownBlock = some g → g < N1 := fun g e => by rw [← hN1]; exact (HT.out.bo.lt g e).2
    have lo2 : ∀ g, (Value.slice pa P.length pc).ownBlock = some g → g < N1 := fun g e => by rw [← hN1]; exact (HT.out.po.lt g e).2
    have LO := hid (And.intro lo1 lo2)
    have HPL := hid (show P.length = L.length by
     rcases HG.out with ⟨rfl, rfl, _⟩ | ⟨par, U2, e1, e2, rfl⟩
     ·rfl
     ·simp [parL])
    clear lo1 lo2
    go_wp2_with (first | (at_builtin; refine append_at rfl (.tmp 47) (.tmp 50) rfl (tb + 1) _ (ints L) rfl x T1.out.bo rfl (by simp; have := HM.out; omega) (by have := T1.out.sz; omega) ?_; intro v2 w2 o2 g2 a2; have O2 := hid (And.intro o2 (And.intro g2 a2)); obtain ⟨va, vc, hv2⟩ := owns_len o2; subst hv2; obtain ⟨n2, hn2⟩ : ∃ n2, (ints L ++ [(x : Int)]).length = n2 := ⟨_, rfl⟩; have T2 := hid (T1.out.block o2 g2 a2); rw [hn2] at O2 T2 ⊢; have hb2 : ∀ k, k < W1.heap.size → some k ≠ (Value.slice ba m bc).ownBlock → w2.heap[k]? = W1.heap[k]? := (fun k hk hne => by rw [g2.block k (by simp; omega) hne, Below.heap_alloc _ _ _ hk]); have kp2 := T1.out.keep (w' := w2) (by have := g2.size; simp at this; omega) hb2 (fun k e => (T1.out.bo.lt k e).1); have q0 := kp2.2.1; have qz := kp2.2.2.2.2.1 0; have bb2 : Below w.heap.size w w2 := (new B1'.out.1 _).grown g2 (by simp; have := B1'.out.1.size; omega) (fun q hq => by have := (T1.out.bo.lt q hq).1; omega); obtain ⟨W2, hW2⟩ : ∃ W2, w2.setCell ⟨tb, 0, none⟩ (.slice va n2 vc) = W2 := ⟨_, rfl⟩; rw [hW2] at T2; have hk2 : ∀ k, k < W1.heap.size → some k ≠ (Value.slice ba m bc).ownBlock → k ≠ tb → W2.heap[k]? = W1.heap[k]? := (fun k h1 h2 h3 => by rw [← hW2, Below.heap_setCell _ _ _ _ h3]; exact hb2 k h1 h2); have BB2 := hid (show Below w.heap.size w W2 ∧ W2.heap[w.heap.size + 1]? = W.heap[w.heap.size + 1]? from ⟨by rw [← hW2]; exact bb2.setCell (by show _ ≤ tb; omega) _, by rw [hk2 _ (by omega) (fun e => by have := (T1.out.bo.lt _ e.symm).1; omega) (by omega)]; exact B1'.out.2⟩); have e1b : W2.cell? ⟨N1, 0, none⟩ = some (.int .i64 uf) := (by rw [World.cell?_of_block (w := W1) (hk2 N1 hN1z (fun e => by have := LO.out.1 _ e.symm; omega) (by omega))]; exact HH0.out 0 _ rfl); have e2b : W2.cell? ⟨N1, 1, none⟩ = some (.int .i64 x) := (by rw [World.cell?_of_block (w := W1) (hk2 N1 hN1z (fun e => by have := LO.out.1 _ e.symm; omega) (by omega))]; exact HH0.out 1 _ rfl); have d1b := T2.out.c1; have hN2z : N1 < W2.heap.size := World.block_lt_of_cell? _ _ e1b; clear o2 g2 a2 hn2 hb2 kp2 bb2 hk2) | (at_builtin; refine append_at rfl (.tmp 54) (.tmp 57) rfl (tb + 1) _ P rfl uf T2.out.po rfl (by have := HM.out; have := HPL.out; omega) (by have := T2.out.sz; omega) ?_; intro v3 w3 o3 g3 a3; obtain ⟨xa, xc, hv3⟩ := owns_len o3; subst hv3; obtain ⟨n3, hn3⟩ : ∃ n3, (P ++ [uf]).length = n3 := ⟨_, rfl⟩; have T3 := hid (T2.out.parent o3 g3 a3); rw [hn3] at T3 ⊢; have hb3 : ∀ k, k < W2.heap.size → some k ≠ (Value.slice pa P.length pc).ownBlock → w3.heap[k]? = W2.heap[k]? := (fun k hk hne => by rw [g3.block k (by simp; omega) hne, Below.heap_alloc _ _ _ hk]); have kp3 := T2.out.keep (w' := w3) (by have := g3.size; simp at this; omega) hb3 (fun k e => (T2.out.po.lt k e).1); have q1 := kp3.2.2.1; have qz1 := kp3.2.2.2.2.1 1; have bb3 : Below w.heap.size w w3 := (new BB2.out.1 _).grown g3 (by simp; have := BB2.out.1.size; omega) (fun q hq => by have := (T2.out.po.lt q hq).1; omega); obtain ⟨W3, hW3⟩ : ∃ W3, w3.setCell ⟨tb, 1, none⟩ (.slice xa n3 xc) = W3 := ⟨_, rfl⟩; rw [hW3] at T3; have hk3 : ∀ k, k < W2.heap.size → some k ≠ (Value.slice pa P.length pc).ownBlock → k ≠ tb → W3.heap[k]? = W2.heap[k]? := (fun k h1 h2 h3 => by rw [← hW3, Below.heap_setCell _ _ _ _ h3]; exact hb3 k h1 h2); have BB3 := hid (show Below w.heap.size w W3 ∧ W3.heap[w.heap.size + 1]? = W.heap[w.heap.size + 1]? from ⟨by rw [← hW3]; exact bb3.setCell (by show _ ≤ tb; omega) _, by rw [hk3 _ (by omega) (fun e => by have := (T2.out.po.lt _ e.symm).1; omega) (by omega)]; exact BB2.out.2⟩); have e1c : W3.cell? ⟨N1, 0, none⟩ = some (.int .i64 uf) := (by rw [World.cell?_of_block (w := W2) (hk3 N1 hN2z (fun e => by have := LO.out.2 _ e.symm; omega) (by omega))]; exact e1b); have e2c : W3.cell? ⟨N1, 1, none⟩ = some (.int .i64 x) := (by rw [World.cell?_of_block (w := W2) (hk3 N1 hN2z (fun e => by have := LO.out.2 _ e.symm; omega) (by omega))]; exact e2b); have d2c := T3.out.c2; have dpc := T3.out.pl.cell x hxn; have dpz := T3.out.pl.fz x; have hN3z : N1 < W3.heap.size := World.block_lt_of_cell? _ _ e1c; obtain ⟨W4, hW4⟩ : ∃ W4, W3.setCell ⟨PB, x, none⟩ (.int .i64 m) = W4 := ⟨_, rfl⟩; have T4 := hid (T3.out.place hxn HXL.out); rw [HM.out, hW4] at T4; obtain ⟨f0, f1, f2, f3, f4⟩ := T4.out.fa; have e2d : W4.cell? ⟨N1, 1, none⟩ = some (.int .i64 x) := (by rw [← hW4]; exact cell_other (fun e => by have := congrArg Addr.block e; simp at this; omega) e2c); have BB4 := hid (show Below w.heap.size w W4 ∧ W4.heap[w.heap.size + 1]? = W.heap[w.heap.size + 1]? from ⟨by rw [← hW4]; exact BB3.out.1.setCell (by show _ ≤ PB; omega) _, by rw [← hW4, Below.heap_setCell _ _ _ _ (by show w.heap.size + 1 ≠ PB; omega)]; exact BB3.out.2⟩); clear o3 g3 a3 hn3 hb3 kp3 bb3 hk3))
    clear f0 f1 f2 f3 f4 e1 e2 e1b e2b e1c e2c d0 d1 d2 dp d1b d2c dpc dpz q0 qz q1 qz1 hW1 hW2 hW3 hW4
    refine (next_flow F x _ (HF.out.on BB4.out.1) HL.out HJ.out).mono ?_
    rintro e w5 ⟨s5, rfl, hsn5, hsi5, hsm5, hb5⟩
    rw [suI_nat] at hsn5 hsi5
    have tp := T4.out.pop (by rw [HKK.out.2])
    rw [HKK.out.1] at tp
    have T5 := hid (tp.on hb5)
    have BB5 := hid (show Below w.heap.size w w5 ∧ w5.heap[w.heap.size + 1]? = W.heap[w.heap.size + 1]? from ⟨View.more BB4.out.1 hb5, by rw [hb5.block _ (by have := T4.out.sz; omega)]; exact BB4.out.2⟩)
    have S5 := hid (And.intro hsn5 (And.intro hsi5 hsm5))
    have hs20 : s5.n ≤ 20 := by rw [hsn5]; exact su_le HL.out x
    have z5 : tb + 1 ≤ W4.heap.size := T4.out.sz
    have ugl : ug < N1 := by rw [← hN1]; exact h4
    have N1l : N1 < W4.heap.size := by have := World.block_lt_of_cell? _ _ e2d; exact this
    have hzz := hb5.size
    clear hsn5 hsi5 hsm5 hb5 tp e2d
    go_wp2_with fail
    obtain ⟨A, hA⟩ : ∃ A, (L ++ [x]) = A := ⟨_, rfl⟩
    have HA := hid hA
    rw [hA] at T5
    clear hA
    go_loopw [4, 71] (fun vv iv wx => ∃ t : Nat, t ≤ s5.n ∧ iv = .int .i64 t ∧ TM F w.heap.size tb PB (tb + 1) wx (.slice va n2 vc) (.slice xa n3 xc) vv A (P ++ [uf]) A (U' ++ ((su F x).take t).map (fun v => ((m : Int), v))) ∧ Ints wx s5 (fun i => (((su F x).getD i 0 : Nat) : Int)) ∧ (∀ g, vv.ownBlock = some g → g < W4.heap.size ∨ w5.heap.size ≤ g) ∧ w5.heap.size ≤ wx.heap.size ∧ Below w.heap.size w wx ∧ wx.heap[w.heap.size + 1]? = W.heap[w.heap.size + 1]?) (fun _ iv _ => s5.n - (intOf iv).toNat)
    case atStart => exact ⟨0, Nat.zero_le _, rfl, by simpa using T5.out, S5.out.2.1, fun g e => by simp [Value.ownBlock] at e; omega, Nat.le_refl _, BB5.out.1, BB5.out.2⟩
    case round =>
     obtain ⟨t, ht0, rfl, ht, hsi, hfar, hws, hbx, hrx⟩ := hrel
     have ST := hid (And.intro ht (And.intro hsi (And.intro hfar (And.intro hbx hrx))))
     by_cases lt : t < s5.n
     ·have htl : t < (su F x).length := by rw [← S5.out.1]; exact lt
      obtain ⟨ib, io, hix, hci⟩ := hsi.at lt
      obtain ⟨y, hy⟩ : ∃ y, (su F x).getD t 0 = y := ⟨_, rfl⟩
      rw [hy] at hci
      have HY := hid hy
      have lenU : (U' ++ ((su F x).take t).map (fun v => ((m : Int), v))).length = k + t := by simp [HKK.out.1]; omega
      have LU := hid lenU
      have ht1 := ST.out.1.sz
      clear ht hsi hfar hbx hrx hy lenU
      go_wp2_with (at_builtin; refine append_step rfl (.tmp 75) (.tmp 79) rfl (tb + 1) u4 (k + t) (flatU (U' ++ ((su F x).take t).map (fun v => ((m : Int), v)))) rfl m y (by have := ST.out.1.uo; rw [LU.out] at this; exact this) rfl (by omega) (by omega) ?_; intro v6 w6 o6 g6 a6; have O6 := hid (And.intro o6 (And.intro g6 a6)); clear o6 g6 a6)
      go_round
      case rel =>
       obtain ⟨o6, g6, a6⟩ := O6.out
       obtain ⟨s1, s2, s3, s4, s6⟩ := ST.out
       have z6 := g6.size
       simp only [World.size_alloc] at z6
       have hk6 : ∀ q, q < wr.heap.size → some q ≠ u4.ownBlock → w6.heap[q]? = wr.heap[q]? := fun q hq hne => by rw [g6.block q (by simp; omega) hne, Below.heap_alloc _ _ _ hq]
       have tk : (su F x).take (t + 1) = (su F x).take t ++ [y] := by
        rw [List.take_add_one, List.getElem?_eq_getElem htl]
        simp [← HY.out, List.getD, htl]
       have eU : U' ++ ((su F x).take (t + 1)).map (fun v => ((m : Int), v)) = (U' ++ ((su F x).take t).map (fun v => ((m : Int), v))) ++ [((m : Int), y)] := by rw [tk]; simp
       refine ⟨t + 1, by omega, by go_num, by rw [eU]; exact s1.push (u := ((m : Int), y)) (by rw [LU.out]; exact o6) g6, s2.kept (p := fun q => q < wr.heap.size ∧ some q ≠ u4.ownBlock) ⟨by omega, fun q hq => hk6 q hq.1 hq.2⟩ (fun b off ha h0 => ?_), fun g e => ?_, by omega, ?_, ?_⟩
       ·obtain ⟨g5, b1, b2, b3, _⟩ := S5.out.2.2 h0
        rw [b1] at ha
        have eb : g5 = b := by simpa using congrArg (fun x => x.map Addr.block) ha
        subst eb
        exact ⟨by omega, fun e => by rcases s3 g5 e.symm with h | h <;> omega⟩
       ·rcases a6 with h | h
        ·exact s3 g (by rw [← h]; exact e)
        ·rw [h] at e; have := Option.some.inj e; exact .inr (by omega)
       ·exact (new s4 _).grown g6 (by simp; have := s4.size; omega) (fun q hq => by have := (s1.uo.lt q hq).1; omega)
       ·rw [hk6 _ (by omega) (fun e => by have := (s1.uo.lt _ e.symm).1; omega)]; exact s6
      case measure => simp [intOf]; omega
     ·obtain rfl : t = s5.n := by omega
      clear ht hsi hfar hbx hrx
      go_wp2_with fail
      have tk : (su F x).take s5.n = su F x := by rw [S5.out.1]; simp
      have FIN := hid (show TM F w.heap.size tb PB (tb + 1) wr (.slice va n2 vc) (.slice xa n3 xc) u4 A (P ++ [uf]) A (U' ++ (su F x).map (fun v => ((m : Int), v))) ∧ GroS F A (P ++ [uf]) (U' ++ (su F x).map (fun v => ((m : Int), v))) ∧ Below w.heap.size w wr ∧ wr.heap[w.heap.size + 1]? = W.heap[w.heap.size + 1]? from ⟨by have := ST.out.1; rw [tk] at this; exact this, by rw [← HA.out]; have := HG.out.meet HXL.out; rw [HM.out] at this; exact this, ST.out.2.2.2.1, ST.out.2.2.2.2⟩)
      have MEA := hid (show (F.blk.n - A.length) * 21 + (U' ++ (su F x).map (fun v => ((m : Int), v))).length + 1 ≤ (F.blk.n - L.length) * 21 + (U' ++ [(uf, x)]).length by
       rw [← HA.out, HKK.out.2]
       simp only [List.length_append, List.length_map, HKK.out.1, ← S5.out.1, List.length_cons, List.length_nil]
       have := HM.out
       omega)
      go_roundg ((F.blk.n - A.length) * 21 + (U' ++ (su F x).map (fun v => ((m : Int), v))).length)
      case measure => have := HK.out; have := MEA.out; omega
      case rel =>
       have f := FIN.out
       have h4' := HK4.out
       have h5' := MEA.out
       first
        | exact ⟨_, _, A, _, _, f.1, f.2.1, f.2.2.1, f.2.2.2, Nat.le_refl _, by omega⟩
        | ((repeat apply Exists.intro); exact ⟨⟨_, _, A, _, _, f.1, f.2.1, f.2.2.1, f.2.2.2, Nat.le_refl _, by omega⟩, rfl⟩)

end Go.Proofs.YtolipafcoolpgaaGreat.Dm
