/-
  Wgp, Wgq, Low, LxZ: laid together.
-/
import Derived.Test.YtnodofbpogcheaaGreatCopyR
import Derived.Test.YtnodofbpogcheaaGreatJ20
import Derived.Test.YtnodofbpogcheaaGreatJ1
import Derived.Lib.ItoaLen
import Derived.Laws.AppendOwnNone
import Derived.Laws.BytesString

namespace Go.Proofs.YtnodofbpogcheaaGreat.CpM
open Go.RowKit View Rd Copy Srt Go.Proofs.YtnodofbpogcheaaGreat.Own Go.Proofs.YtnodofbpogcheaaGreat.Mod

set_option linter.unusedVariables false

def Bl {α : Type} (k : Nat) (v : Value) (Fp : α → Nat → Prop) (t : Nat → α) (b : Nat) : Prop := v.ownBlock = some b ∨ ∃ i, i < k ∧ Fp (t i) b

theorem bl_ge {α : Type} {X0 T z k : Nat} {w : World} {v : Value} {cs : Nat → α → List Value} {El : World → Nat → α → Prop} {Fp : α → Nat → Prop} {t : Nat → α} (g : Grow X0 T z k w v cs El Fp t) {b : Nat} (h : Bl k v Fp t b) : X0 ≤ b ∧ b < w.heap.size := by
 rcases h with h | ⟨i, hi, h⟩
 ·exact g.own.lt b h
 ·exact ⟨(g.fp i hi b h).1, (g.fp i hi b h).2.1⟩

theorem bl_up {α : Type} {X k : Nat} {v : Value} {Fp : α → Nat → Prop} {t : Nat → α} (u : Up X k v Fp t) {b : Nat} (h : Bl k v Fp t b) : b < X := by
 rcases h with h | ⟨i, hi, h⟩
 ·exact u.1 b h
 ·exact u.2 i hi b h

theorem Grow.keep2 {α : Type} {X0 T z k : Nat} {w w' : World} {v : Value} {cs : Nat → α → List Value} {El : World → Nat → α → Prop} {Fp : α → Nat → Prop} {t : Nat → α} (st : Stable El Fp) (h : Grow X0 T z k w v cs El Fp t) (hz : w.heap.size ≤ w'.heap.size)
  (hb : ∀ b, Bl k v Fp t b → w'.heap[b]? = w.heap[b]?) : Grow X0 T z k w' v cs El Fp t := by
 refine ⟨⟨h.own.1, ?_⟩, fun i hi => st w w' i _ (h.el i hi) hz (fun b hf _ => hb b (.inr ⟨i, hi, hf⟩)), fun i hi b hf => ⟨(h.fp i hi b hf).1, Nat.lt_of_lt_of_le (h.fp i hi b hf).2.1 hz, (h.fp i hi b hf).2.2⟩, h.dis⟩
 rcases h.own.2 with q | ⟨g, cap, cur, h1, h2, h3, h4⟩
 ·exact .inl q
 ·exact .inr ⟨g, cap, cur, h1, h2, by rw [hb g (.inl (by rw [h1]; rfl))]; exact h3, h4⟩

theorem Grow.congr {α : Type} {X0 T z k : Nat} {w : World} {v : Value} {cs cs' : Nat → α → List Value} {El El' : World → Nat → α → Prop} {Fp : α → Nat → Prop} {t : Nat → α} (h : Grow X0 T z k w v cs El Fp t)
  (hc : ∀ i a, i < k → cs' i a = cs i a) (he : ∀ i, i < k → El w i (t i) → El' w i (t i)) : Grow X0 T z k w v cs' El' Fp t :=
 ⟨by rw [fl_congr (d := fun i => cs i (t i)) (fun i hi => hc i _ hi)]; exact h.own, fun i hi => he i hi (h.el i hi), h.fp, h.dis⟩

theorem bl_step {α : Type} {k N : Nat} {v v' : Value} {Fp : α → Nat → Prop} {t : Nat → α} {a : α} {b : Nat} (hat : v'.ownBlock = v.ownBlock ∨ v'.ownBlock = some N) (h : Bl (k + 1) v' Fp (fun i => if i < k then t i else a) b) : Bl k v Fp t b ∨ Fp a b ∨ b = N := by
 rcases h with h | ⟨i, hi, h⟩
 ·rcases hat with e | e
  ·rw [e] at h; exact .inl (.inl h)
  ·rw [e] at h; exact .inr (.inr (Option.some.inj h).symm)
 ·by_cases q : i < k
  ·simp only [q, if_true] at h
   exact .inl (.inr ⟨i, q, h⟩)
  ·simp only [q, if_false] at h
   exact .inr (.inl h)

structure Ord (w : World) (V : Nat) (wr : World) (O : MV) (X1 X2 X3 X4 : Nat) (t1 t2 t3 : Nat → Sl) (t4 : Nat → FV) : Prop where
 box : MBox wr V O
 g1 : Grow X1 54 3 O.ext.n wr (slv O.ext) (csE O.E) (ElS (fun i => (O.E i).par.n) O.EP X1) FpS t1
 g2 : Grow X2 47 2 O.glo.n wr (slv O.glo) (csG O.G) (ElS (fun i => (O.G i).cel.n) O.GC X2) FpS t2
 g3 : Grow X3 49 2 O.tab.n wr (slv O.tab) (csG O.T) (ElS (fun i => (O.T i).cel.n) O.TF X3) FpS t3
 g4 : Grow X4 36 5 O.fns.n wr (slv O.fns) csF (ElF O.F X4) FpF t4
 d12 : ∀ b, Bl O.ext.n (slv O.ext) FpS t1 b → ¬ Bl O.glo.n (slv O.glo) FpS t2 b
 d13 : ∀ b, Bl O.ext.n (slv O.ext) FpS t1 b → ¬ Bl O.tab.n (slv O.tab) FpS t3 b
 d14 : ∀ b, Bl O.ext.n (slv O.ext) FpS t1 b → ¬ Bl O.fns.n (slv O.fns) FpF t4 b
 d23 : ∀ b, Bl O.glo.n (slv O.glo) FpS t2 b → ¬ Bl O.tab.n (slv O.tab) FpS t3 b
 d24 : ∀ b, Bl O.glo.n (slv O.glo) FpS t2 b → ¬ Bl O.fns.n (slv O.fns) FpF t4 b
 d34 : ∀ b, Bl O.tab.n (slv O.tab) FpS t3 b → ¬ Bl O.fns.n (slv O.fns) FpF t4 b
 v1 : ∀ b, Bl O.ext.n (slv O.ext) FpS t1 b → b ≠ V
 v2 : ∀ b, Bl O.glo.n (slv O.glo) FpS t2 b → b ≠ V
 v3 : ∀ b, Bl O.tab.n (slv O.tab) FpS t3 b → b ≠ V
 v4 : ∀ b, Bl O.fns.n (slv O.fns) FpF t4 b → b ≠ V
 fz : ∀ i, wr.frozen? ⟨V, i, none⟩ = false
 low : Below w.heap.size w wr
 vlt : V < wr.heap.size
 vge : w.heap.size ≤ V
 x : w.heap.size ≤ X1 ∧ w.heap.size ≤ X2 ∧ w.heap.size ≤ X3 ∧ w.heap.size ≤ X4
 y : X1 ≤ wr.heap.size ∧ X2 ≤ wr.heap.size ∧ X3 ≤ wr.heap.size ∧ X4 ≤ wr.heap.size

theorem Ord.on {w wr wx : World} {V : Nat} {O : MV} {X1 X2 X3 X4 : Nat} {t1 t2 t3 : Nat → Sl} {t4 : Nat → FV} (h : Ord w V wr O X1 X2 X3 X4 t1 t2 t3 t4) (hb : Below wr.heap.size wr wx) : Ord w V wx O X1 X2 X3 X4 t1 t2 t3 t4 := by
 have z := hb.size
 obtain ⟨y1, y2, y3, y4⟩ := h.y
 exact ⟨h.box.on hb, h.g1.keep (elS_stable _ _ _) z (fun b _ q => hb.block b q), h.g2.keep (elS_stable _ _ _) z (fun b _ q => hb.block b q), h.g3.keep (elS_stable _ _ _) z (fun b _ q => hb.block b q), h.g4.keep (elF_stable _ _) z (fun b _ q => hb.block b q),
  h.d12, h.d13, h.d14, h.d23, h.d24, h.d34, h.v1, h.v2, h.v3, h.v4, fun i => by rw [hb.frozen h.vlt]; exact h.fz i, more h.low hb, Nat.lt_of_lt_of_le h.vlt z, h.vge, h.x, ⟨Nat.le_trans y1 z, Nat.le_trans y2 z, Nat.le_trans y3 z, Nat.le_trans y4 z⟩⟩

theorem Ord.start {M : MV} {w ws wr : World} {V : Nat} {s1 s2 s3 s4 : Sl} {X1 X2 X3 X4 : Nat} {t1 t2 t3 : Nat → Sl} {t4 : Nat → FV} (h : GrM M ws s1 s2 s3 s4 X1 X2 X3 X4 t1 t2 t3 t4) (hn : s1.n = M.ext.n ∧ s2.n = M.glo.n ∧ s3.n = M.tab.n ∧ s4.n = M.fns.n)
  (hw : Below w.heap.size w wr) (hb : Below ws.heap.size ws wr) (hV : ws.heap.size ≤ V) (hx : w.heap.size ≤ X1) (hV2 : V < wr.heap.size) (fz : ∀ i, wr.frozen? ⟨V, i, none⟩ = false) (O : MV) (hO : O = { M with ext := s1, glo := s2, tab := s3, fns := s4 }) (bx : MBox wr V O) : Ord w V wr O X1 X2 X3 X4 t1 t2 t3 t4 := by
 have x12 := h.x12
 have x23 := h.x23
 have x34 := h.x34
 have x4 := h.x4
 have z := hb.size
 obtain ⟨n1, n2, n3, n4⟩ := hn
 have zw : w.heap.size ≤ X1 := hx
 subst hO
 have e1 := h.g1
 have e2 := h.g2
 have e3 := h.g3
 have e4 := h.g4
 have u1 := h.u1
 have u2 := h.u2
 have u3 := h.u3
 rw [← n1] at e1 u1
 rw [← n2] at e2 u2
 rw [← n3] at e3 u3
 rw [← n4] at e4
 refine ⟨bx, e1.keep (elS_stable _ _ _) z (fun b _ q => hb.block b q), e2.keep (elS_stable _ _ _) z (fun b _ q => hb.block b q), e3.keep (elS_stable _ _ _) z (fun b _ q => hb.block b q), e4.keep (elF_stable _ _) z (fun b _ q => hb.block b q),
  fun b p q => ?_, fun b p q => ?_, fun b p q => ?_, fun b p q => ?_, fun b p q => ?_, fun b p q => ?_, fun b p q => ?_, fun b p q => ?_, fun b p q => ?_, fun b p q => ?_, fz, hw, hV2, by omega, ⟨by omega, by omega, by omega, by omega⟩, ⟨by omega, by omega, by omega, by omega⟩⟩
 ·have := bl_up u1 p; have := bl_ge e2 q; omega
 ·have := bl_up u1 p; have := bl_ge e3 q; omega
 ·have := bl_up u1 p; have := bl_ge e4 q; omega
 ·have := bl_up u2 p; have := bl_ge e3 q; omega
 ·have := bl_up u2 p; have := bl_ge e4 q; omega
 ·have := bl_up u3 p; have := bl_ge e4 q; omega
 ·have := bl_ge e1 p; omega
 ·have := bl_ge e2 p; omega
 ·have := bl_ge e3 p; omega
 ·have := bl_ge e4 p; omega

theorem Ord.ext {w wr w2 w4 : World} {V : Nat} {O : MV} {X1 X2 X3 X4 : Nat} {t1 t2 t3 : Nat → Sl} {t4 : Nat → FV} (h : Ord w V wr O X1 X2 X3 X4 t1 t2 t3 t4) (nm : ByteArray) (res : Int) (a s' : Sl) (C : Nat → Int) {ob : Obj} (hb2 : Below wr.heap.size wr w2) (ha : Ints w2 a C) (hm : Mine wr.heap.size w2.heap.size w2 a)
  (hn : s'.n = O.ext.n + 1) (own4 : w4.ownsRow X1 54 3 (slv s') (O.ext.n + 1) (fl (fun i => csE O.E i (t1 i)) O.ext.n ++ [.string nm, .slice a.a a.n a.c, .int .i64 res])) (gr : (w2.alloc ob).grownBy w4 (slv O.ext).ownBlock) (hat : (slv s').ownBlock = (slv O.ext).ownBlock ∨ (slv s').ownBlock = some (w2.heap.size + 1)) :
  Ord w V (w4.setCell ⟨V, 0, none⟩ (slv s')) { O with ext := s', E := fun i => if i < O.ext.n then O.E i else ⟨nm, a, res⟩, EP := fun i => if i < O.ext.n then O.EP i else C } X1 X2 X3 X4 (fun i => if i < O.ext.n then t1 i else a) t2 t3 t4 := by
 obtain ⟨x1, x2, x3, x4⟩ := h.x
 obtain ⟨y1, y2, y3, y4⟩ := h.y
 have vlt := h.vlt
 have vge := h.vge
 have z2 := hb2.size
 have z4 := gr.size
 simp only [World.size_alloc] at z4
 have kb : ∀ b, b < wr.heap.size → some b ≠ (slv O.ext).ownBlock → w4.heap[b]? = wr.heap[b]? := fun b hb hne => by rw [gr.block b (by simp; omega) hne, Below.heap_alloc _ _ _ (by omega), hb2.block b hb]
 have kf : ∀ b, b < wr.heap.size → b ≠ V → some b ≠ (slv O.ext).ownBlock → (w4.setCell ⟨V, 0, none⟩ (slv s')).heap[b]? = wr.heap[b]? := fun b hb hV hne => by rw [Below.heap_setCell _ _ _ _ hV, kb b hb hne]
 have nV : some V ≠ (slv O.ext).ownBlock := fun e => h.v1 V (.inl e.symm) rfl
 have fa : ∀ b, FpS a b → wr.heap.size ≤ b ∧ b < w2.heap.size := fun b hb => by rw [hb.2]; have := mine_blk hm hb.1; exact ⟨this.2.1, this.2.2.1⟩
 have g0 : Grow X1 54 3 O.ext.n wr (slv O.ext) (csE (fun i => if i < O.ext.n then O.E i else ⟨nm, a, res⟩)) (ElS (fun i => ((fun i => if i < O.ext.n then O.E i else ⟨nm, a, res⟩) i).par.n) (fun i => if i < O.ext.n then O.EP i else C) X1) FpS t1 :=
  h.g1.congr (fun i a hi => by simp [csE, hi]) (fun i hi q => ⟨by simp only [hi, if_true]; exact q.1, by simp only [hi, if_true]; exact q.2.1, q.2.2⟩)
 have el : ElS (fun i => ((fun i => if i < O.ext.n then O.E i else ⟨nm, a, res⟩) i).par.n) (fun i => if i < O.ext.n then O.EP i else C) X1 w2 O.ext.n a := ⟨by simp, by simp only [Nat.lt_irrefl, if_false]; exact ha, hm.wide (by omega) (Nat.le_refl _)⟩
 have own4' : w4.ownsRow X1 54 3 (slv s') (O.ext.n + 1) (fl (fun i => csE (fun i => if i < O.ext.n then O.E i else ⟨nm, a, res⟩) i (t1 i)) O.ext.n ++ csE (fun i => if i < O.ext.n then O.E i else ⟨nm, a, res⟩) O.ext.n a) := by
  rw [fl_congr (d := fun i => csE O.E i (t1 i)) (fun i hi => by simp [csE, hi])]
  simp only [csE, Nat.lt_irrefl, if_false]
  exact own4
 have g1 := g0.stepx (elS_stable _ _ _) (by omega) hb2 el fa own4' gr hat
 have bs : ∀ b, Bl (O.ext.n + 1) (slv s') FpS (fun i => if i < O.ext.n then t1 i else a) b → Bl O.ext.n (slv O.ext) FpS t1 b ∨ wr.heap.size ≤ b := fun b hb => by
  rcases bl_step hat hb with q | q | q
  ·exact .inl q
  ·exact .inr (fa b q).1
  ·exact .inr (by omega)
 have vv : ∀ b, Bl (O.ext.n + 1) (slv s') FpS (fun i => if i < O.ext.n then t1 i else a) b → b ≠ V := fun b hb => by
  rcases bs b hb with q | q
  ·exact h.v1 b q
  ·omega
 have g2 := g1.keep2 (w' := w4.setCell ⟨V, 0, none⟩ (slv s')) (elS_stable _ _ _) (by simp) (fun b hb => Below.heap_setCell _ _ _ _ (vv b hb))
 have sz : wr.heap.size ≤ (w4.setCell ⟨V, 0, none⟩ (slv s')).heap.size := by simp; omega
 rw [← hn] at g2 bs vv
 refine ⟨?_, g2, h.g2.keep2 (elS_stable _ _ _) sz (fun b p => kf b (bl_ge h.g2 p).2 (h.v2 b p) (fun e => by have q : Bl O.ext.n (slv O.ext) FpS t1 b := .inl e.symm; exact h.d12 _ q p)), h.g3.keep2 (elS_stable _ _ _) sz (fun b p => kf b (bl_ge h.g3 p).2 (h.v3 b p) (fun e => by have q : Bl O.ext.n (slv O.ext) FpS t1 b := .inl e.symm; exact h.d13 _ q p)), h.g4.keep2 (elF_stable _ _) sz (fun b p => kf b (bl_ge h.g4 p).2 (h.v4 b p) (fun e => by have q : Bl O.ext.n (slv O.ext) FpS t1 b := .inl e.symm; exact h.d14 _ q p)), ?_, ?_, ?_, h.d23, h.d24, h.d34, vv, h.v2, h.v3, h.v4, fun i => ?_, ?_, by omega, vge, h.x, ⟨by omega, by omega, by omega, by omega⟩⟩
 ·exact ⟨by exact cell_same (u := slv O.ext) (by rw [World.cell?_of_block (w := wr) (kb V vlt nV)]; exact h.box.c0), by rw [World.cell?_setCell_other (h := ne_off (by decide)), World.cell?_of_block (w := wr) (kb V vlt nV)]; exact h.box.c1, by rw [World.cell?_setCell_other (h := ne_off (by decide)), World.cell?_of_block (w := wr) (kb V vlt nV)]; exact h.box.c2, by rw [World.cell?_setCell_other (h := ne_off (by decide)), World.cell?_of_block (w := wr) (kb V vlt nV)]; exact h.box.c3⟩
 ·exact fun b p q => by
   rcases bs b p with p | p
   ·exact h.d12 b p q
   ·have := (bl_ge h.g2 q).2; omega
 ·exact fun b p q => by
   rcases bs b p with p | p
   ·exact h.d13 b p q
   ·have := (bl_ge h.g3 q).2; omega
 ·exact fun b p q => by
   rcases bs b p with p | p
   ·exact h.d14 b p q
   ·have := (bl_ge h.g4 q).2; omega
 ·rw [World.frozen?_setCell, World.frozen?_of_block (w := wr) (kb V vlt nV)]; exact h.fz i
 ·refine Below.setCell ?_ (by show _ ≤ V; omega) _
  refine ((more h.low hb2).alloc (by have := h.low.size; omega) _).grown gr (by simp; have := h.low.size; omega) (fun g hg => ?_)
  have := bl_ge h.g1 (.inl hg)
  omega

theorem Ord.glo {w wr w2 w4 : World} {V : Nat} {O : MV} {X1 X2 X3 X4 : Nat} {t1 t2 t3 : Nat → Sl} {t4 : Nat → FV} (h : Ord w V wr O X1 X2 X3 X4 t1 t2 t3 t4) (nm : ByteArray) (a s' : Sl) (C : Nat → Int) {ob : Obj} (hb2 : Below wr.heap.size wr w2) (ha : Ints w2 a C) (hm : Mine wr.heap.size w2.heap.size w2 a)
  (hn : s'.n = O.glo.n + 1) (own4 : w4.ownsRow X2 47 2 (slv s') (O.glo.n + 1) (fl (fun i => csG O.G i (t2 i)) O.glo.n ++ [.string nm, .slice a.a a.n a.c])) (gr : (w2.alloc ob).grownBy w4 (slv O.glo).ownBlock) (hat : (slv s').ownBlock = (slv O.glo).ownBlock ∨ (slv s').ownBlock = some (w2.heap.size + 1)) :
  Ord w V (w4.setCell ⟨V, 1, none⟩ (slv s')) { O with glo := s', G := fun i => if i < O.glo.n then O.G i else ⟨nm, a⟩, GC := fun i => if i < O.glo.n then O.GC i else C } X1 X2 X3 X4 t1 (fun i => if i < O.glo.n then t2 i else a) t3 t4 := by
 obtain ⟨x1, x2, x3, x4⟩ := h.x
 obtain ⟨y1, y2, y3, y4⟩ := h.y
 have vlt := h.vlt
 have vge := h.vge
 have z2 := hb2.size
 have z4 := gr.size
 simp only [World.size_alloc] at z4
 have kb : ∀ b, b < wr.heap.size → some b ≠ (slv O.glo).ownBlock → w4.heap[b]? = wr.heap[b]? := fun b hb hne => by rw [gr.block b (by simp; omega) hne, Below.heap_alloc _ _ _ (by omega), hb2.block b hb]
 have kf : ∀ b, b < wr.heap.size → b ≠ V → some b ≠ (slv O.glo).ownBlock → (w4.setCell ⟨V, 1, none⟩ (slv s')).heap[b]? = wr.heap[b]? := fun b hb hV hne => by rw [Below.heap_setCell _ _ _ _ hV, kb b hb hne]
 have nV : some V ≠ (slv O.glo).ownBlock := fun e => h.v2 V (.inl e.symm) rfl
 have fa : ∀ b, FpS a b → wr.heap.size ≤ b ∧ b < w2.heap.size := fun b hb => by rw [hb.2]; have := mine_blk hm hb.1; exact ⟨this.2.1, this.2.2.1⟩
 have g0 : Grow X2 47 2 O.glo.n wr (slv O.glo) (csG (fun i => if i < O.glo.n then O.G i else ⟨nm, a⟩)) (ElS (fun i => ((fun i => if i < O.glo.n then O.G i else ⟨nm, a⟩) i).cel.n) (fun i => if i < O.glo.n then O.GC i else C) X2) FpS t2 :=
  h.g2.congr (fun i a hi => by simp [csG, hi]) (fun i hi q => ⟨by simp only [hi, if_true]; exact q.1, by simp only [hi, if_true]; exact q.2.1, q.2.2⟩)
 have el : ElS (fun i => ((fun i => if i < O.glo.n then O.G i else ⟨nm, a⟩) i).cel.n) (fun i => if i < O.glo.n then O.GC i else C) X2 w2 O.glo.n a := ⟨by simp, by simp only [Nat.lt_irrefl, if_false]; exact ha, hm.wide (by omega) (Nat.le_refl _)⟩
 have own4' : w4.ownsRow X2 47 2 (slv s') (O.glo.n + 1) (fl (fun i => csG (fun i => if i < O.glo.n then O.G i else ⟨nm, a⟩) i (t2 i)) O.glo.n ++ csG (fun i => if i < O.glo.n then O.G i else ⟨nm, a⟩) O.glo.n a) := by
  rw [fl_congr (d := fun i => csG O.G i (t2 i)) (fun i hi => by simp [csG, hi])]
  simp only [csG, Nat.lt_irrefl, if_false]
  exact own4
 have g1 := g0.stepx (elS_stable _ _ _) (by omega) hb2 el fa own4' gr hat
 have bs : ∀ b, Bl (O.glo.n + 1) (slv s') FpS (fun i => if i < O.glo.n then t2 i else a) b → Bl O.glo.n (slv O.glo) FpS t2 b ∨ wr.heap.size ≤ b := fun b hb => by
  rcases bl_step hat hb with q | q | q
  ·exact .inl q
  ·exact .inr (fa b q).1
  ·exact .inr (by omega)
 have vv : ∀ b, Bl (O.glo.n + 1) (slv s') FpS (fun i => if i < O.glo.n then t2 i else a) b → b ≠ V := fun b hb => by
  rcases bs b hb with q | q
  ·exact h.v2 b q
  ·omega
 have g2 := g1.keep2 (w' := w4.setCell ⟨V, 1, none⟩ (slv s')) (elS_stable _ _ _) (by simp) (fun b hb => Below.heap_setCell _ _ _ _ (vv b hb))
 have sz : wr.heap.size ≤ (w4.setCell ⟨V, 1, none⟩ (slv s')).heap.size := by simp; omega
 rw [← hn] at g2 bs vv
 refine ⟨?_, h.g1.keep2 (elS_stable _ _ _) sz (fun b p => kf b (bl_ge h.g1 p).2 (h.v1 b p) (fun e => by have q : Bl O.glo.n (slv O.glo) FpS t2 b := .inl e.symm; exact h.d12 _ p q)), g2, h.g3.keep2 (elS_stable _ _ _) sz (fun b p => kf b (bl_ge h.g3 p).2 (h.v3 b p) (fun e => by have q : Bl O.glo.n (slv O.glo) FpS t2 b := .inl e.symm; exact h.d23 _ q p)), h.g4.keep2 (elF_stable _ _) sz (fun b p => kf b (bl_ge h.g4 p).2 (h.v4 b p) (fun e => by have q : Bl O.glo.n (slv O.glo) FpS t2 b := .inl e.symm; exact h.d24 _ q p)), ?_, h.d13, h.d14, ?_, ?_, h.d34, h.v1, vv, h.v3, h.v4, fun i => ?_, ?_, by omega, vge, h.x, ⟨by omega, by omega, by omega, by omega⟩⟩
 ·exact ⟨by rw [World.cell?_setCell_other (h := ne_off (by decide)), World.cell?_of_block (w := wr) (kb V vlt nV)]; exact h.box.c0, by exact cell_same (u := slv O.glo) (by rw [World.cell?_of_block (w := wr) (kb V vlt nV)]; exact h.box.c1), by rw [World.cell?_setCell_other (h := ne_off (by decide)), World.cell?_of_block (w := wr) (kb V vlt nV)]; exact h.box.c2, by rw [World.cell?_setCell_other (h := ne_off (by decide)), World.cell?_of_block (w := wr) (kb V vlt nV)]; exact h.box.c3⟩
 ·exact fun b p q => by
   rcases bs b q with q | q
   ·exact h.d12 b p q
   ·have := (bl_ge h.g1 p).2; omega
 ·exact fun b p q => by
   rcases bs b p with p | p
   ·exact h.d23 b p q
   ·have := (bl_ge h.g3 q).2; omega
 ·exact fun b p q => by
   rcases bs b p with p | p
   ·exact h.d24 b p q
   ·have := (bl_ge h.g4 q).2; omega
 ·rw [World.frozen?_setCell, World.frozen?_of_block (w := wr) (kb V vlt nV)]; exact h.fz i
 ·refine Below.setCell ?_ (by show _ ≤ V; omega) _
  refine ((more h.low hb2).alloc (by have := h.low.size; omega) _).grown gr (by simp; have := h.low.size; omega) (fun g hg => ?_)
  have := bl_ge h.g2 (.inl hg)
  omega

theorem Ord.tab {w wr w2 w4 : World} {V : Nat} {O : MV} {X1 X2 X3 X4 : Nat} {t1 t2 t3 : Nat → Sl} {t4 : Nat → FV} (h : Ord w V wr O X1 X2 X3 X4 t1 t2 t3 t4) (nm : ByteArray) (a s' : Sl) (C : Nat → Int) {ob : Obj} (hb2 : Below wr.heap.size wr w2) (ha : Ints w2 a C) (hm : Mine wr.heap.size w2.heap.size w2 a)
  (hn : s'.n = O.tab.n + 1) (own4 : w4.ownsRow X3 49 2 (slv s') (O.tab.n + 1) (fl (fun i => csG O.T i (t3 i)) O.tab.n ++ [.string nm, .slice a.a a.n a.c])) (gr : (w2.alloc ob).grownBy w4 (slv O.tab).ownBlock) (hat : (slv s').ownBlock = (slv O.tab).ownBlock ∨ (slv s').ownBlock = some (w2.heap.size + 1)) :
  Ord w V (w4.setCell ⟨V, 2, none⟩ (slv s')) { O with tab := s', T := fun i => if i < O.tab.n then O.T i else ⟨nm, a⟩, TF := fun i => if i < O.tab.n then O.TF i else C } X1 X2 X3 X4 t1 t2 (fun i => if i < O.tab.n then t3 i else a) t4 := by
 obtain ⟨x1, x2, x3, x4⟩ := h.x
 obtain ⟨y1, y2, y3, y4⟩ := h.y
 have vlt := h.vlt
 have vge := h.vge
 have z2 := hb2.size
 have z4 := gr.size
 simp only [World.size_alloc] at z4
 have kb : ∀ b, b < wr.heap.size → some b ≠ (slv O.tab).ownBlock → w4.heap[b]? = wr.heap[b]? := fun b hb hne => by rw [gr.block b (by simp; omega) hne, Below.heap_alloc _ _ _ (by omega), hb2.block b hb]
 have kf : ∀ b, b < wr.heap.size → b ≠ V → some b ≠ (slv O.tab).ownBlock → (w4.setCell ⟨V, 2, none⟩ (slv s')).heap[b]? = wr.heap[b]? := fun b hb hV hne => by rw [Below.heap_setCell _ _ _ _ hV, kb b hb hne]
 have nV : some V ≠ (slv O.tab).ownBlock := fun e => h.v3 V (.inl e.symm) rfl
 have fa : ∀ b, FpS a b → wr.heap.size ≤ b ∧ b < w2.heap.size := fun b hb => by rw [hb.2]; have := mine_blk hm hb.1; exact ⟨this.2.1, this.2.2.1⟩
 have g0 : Grow X3 49 2 O.tab.n wr (slv O.tab) (csG (fun i => if i < O.tab.n then O.T i else ⟨nm, a⟩)) (ElS (fun i => ((fun i => if i < O.tab.n then O.T i else ⟨nm, a⟩) i).cel.n) (fun i => if i < O.tab.n then O.TF i else C) X3) FpS t3 :=
  h.g3.congr (fun i a hi => by simp [csG, hi]) (fun i hi q => ⟨by simp only [hi, if_true]; exact q.1, by simp only [hi, if_true]; exact q.2.1, q.2.2⟩)
 have el : ElS (fun i => ((fun i => if i < O.tab.n then O.T i else ⟨nm, a⟩) i).cel.n) (fun i => if i < O.tab.n then O.TF i else C) X3 w2 O.tab.n a := ⟨by simp, by simp only [Nat.lt_irrefl, if_false]; exact ha, hm.wide (by omega) (Nat.le_refl _)⟩
 have own4' : w4.ownsRow X3 49 2 (slv s') (O.tab.n + 1) (fl (fun i => csG (fun i => if i < O.tab.n then O.T i else ⟨nm, a⟩) i (t3 i)) O.tab.n ++ csG (fun i => if i < O.tab.n then O.T i else ⟨nm, a⟩) O.tab.n a) := by
  rw [fl_congr (d := fun i => csG O.T i (t3 i)) (fun i hi => by simp [csG, hi])]
  simp only [csG, Nat.lt_irrefl, if_false]
  exact own4
 have g1 := g0.stepx (elS_stable _ _ _) (by omega) hb2 el fa own4' gr hat
 have bs : ∀ b, Bl (O.tab.n + 1) (slv s') FpS (fun i => if i < O.tab.n then t3 i else a) b → Bl O.tab.n (slv O.tab) FpS t3 b ∨ wr.heap.size ≤ b := fun b hb => by
  rcases bl_step hat hb with q | q | q
  ·exact .inl q
  ·exact .inr (fa b q).1
  ·exact .inr (by omega)
 have vv : ∀ b, Bl (O.tab.n + 1) (slv s') FpS (fun i => if i < O.tab.n then t3 i else a) b → b ≠ V := fun b hb => by
  rcases bs b hb with q | q
  ·exact h.v3 b q
  ·omega
 have g2 := g1.keep2 (w' := w4.setCell ⟨V, 2, none⟩ (slv s')) (elS_stable _ _ _) (by simp) (fun b hb => Below.heap_setCell _ _ _ _ (vv b hb))
 have sz : wr.heap.size ≤ (w4.setCell ⟨V, 2, none⟩ (slv s')).heap.size := by simp; omega
 rw [← hn] at g2 bs vv
 refine ⟨?_, h.g1.keep2 (elS_stable _ _ _) sz (fun b p => kf b (bl_ge h.g1 p).2 (h.v1 b p) (fun e => by have q : Bl O.tab.n (slv O.tab) FpS t3 b := .inl e.symm; exact h.d13 _ p q)), h.g2.keep2 (elS_stable _ _ _) sz (fun b p => kf b (bl_ge h.g2 p).2 (h.v2 b p) (fun e => by have q : Bl O.tab.n (slv O.tab) FpS t3 b := .inl e.symm; exact h.d23 _ p q)), g2, h.g4.keep2 (elF_stable _ _) sz (fun b p => kf b (bl_ge h.g4 p).2 (h.v4 b p) (fun e => by have q : Bl O.tab.n (slv O.tab) FpS t3 b := .inl e.symm; exact h.d34 _ q p)), h.d12, ?_, h.d14, ?_, h.d24, ?_, h.v1, h.v2, vv, h.v4, fun i => ?_, ?_, by omega, vge, h.x, ⟨by omega, by omega, by omega, by omega⟩⟩
 ·exact ⟨by rw [World.cell?_setCell_other (h := ne_off (by decide)), World.cell?_of_block (w := wr) (kb V vlt nV)]; exact h.box.c0, by rw [World.cell?_setCell_other (h := ne_off (by decide)), World.cell?_of_block (w := wr) (kb V vlt nV)]; exact h.box.c1, by exact cell_same (u := slv O.tab) (by rw [World.cell?_of_block (w := wr) (kb V vlt nV)]; exact h.box.c2), by rw [World.cell?_setCell_other (h := ne_off (by decide)), World.cell?_of_block (w := wr) (kb V vlt nV)]; exact h.box.c3⟩
 ·exact fun b p q => by
   rcases bs b q with q | q
   ·exact h.d13 b p q
   ·have := (bl_ge h.g1 p).2; omega
 ·exact fun b p q => by
   rcases bs b q with q | q
   ·exact h.d23 b p q
   ·have := (bl_ge h.g2 p).2; omega
 ·exact fun b p q => by
   rcases bs b p with p | p
   ·exact h.d34 b p q
   ·have := (bl_ge h.g4 q).2; omega
 ·rw [World.frozen?_setCell, World.frozen?_of_block (w := wr) (kb V vlt nV)]; exact h.fz i
 ·refine Below.setCell ?_ (by show _ ≤ V; omega) _
  refine ((more h.low hb2).alloc (by have := h.low.size; omega) _).grown gr (by simp; have := h.low.size; omega) (fun g hg => ?_)
  have := bl_ge h.g3 (.inl hg)
  omega

end Go.Proofs.YtnodofbpogcheaaGreat.CpM

namespace Go.Proofs.YtnodofbpogcheaaGreat.Wf
open Go.RowKit View Rd Num Opn Copy Srt Go.Proofs.YtnodofbpogcheaaGreat.Mod Go.Proofs.YtnodofbpogcheaaGreat.Chk Go.Proofs.YtnodofbpogcheaaGreat.Flo Go.Proofs.YtnodofbpogcheaaGreat.CpM

set_option linter.unusedVariables false

theorem jng_eq {F G : FV} (h : EqF F G) (hj : Jng G) : Jng F := fun j hj' k hk t ht => by
 obtain ⟨_, _, _, _, hb, hB⟩ := h
 obtain ⟨e1, e2⟩ := hB j hj'
 obtain ⟨_, _, _, _, _, _, e3⟩ := e2 k hk
 rw [e3.2 t ht]
 exact hj j (by rw [← hb]; exact hj') k (by rw [← e1]; exact hk) t (by rw [← e3.1]; exact ht)

abbrev nmX (j : Nat) : ByteArray := ⟨#[120, 120, UInt8.ofNat (48 + j)]⟩

structure Added (M O : MV) (L : List Nat) : Prop where
 more : MoreM M O
 ne : O.ext.n = M.ext.n + L.count 1
 ng : O.glo.n = M.glo.n + L.count 0 + L.count 2
 nt : O.tab.n = M.tab.n + L.count 3
 ext : ∀ i, M.ext.n ≤ i → i < O.ext.n → (O.E i).par.n = 0 ∧ (O.E i).res = 3 ∧ (O.E i).name.size ≤ 40
 glo : ∀ i, M.glo.n ≤ i → i < O.glo.n → (O.G i).cel.n ≤ 1 ∧ (O.G i).name.size ≤ 40 ∧ (0 ∉ L → (O.G i).cel.n = 1)
 glo0 : 0 ∈ L → ∃ i, i < O.glo.n ∧ (O.G i).cel.n = 0
 glo2 : 2 ∈ L → ∃ i, i < O.glo.n ∧ (O.G i).name.toList = (⟨#[63]⟩ : ByteArray).toList
 ext1 : 1 ∈ L → ∃ i, i < O.ext.n ∧ (O.E i).res = 3
 tab : ∀ i, M.tab.n ≤ i → i < O.tab.n → (O.T i).cel.n = 1 ∧ O.TF i 0 = -2 ∧ ∃ j, j < L.length ∧ (O.T i).name.toList = (nmX j).toList
 dis : ∀ i j, M.tab.n ≤ i → i < O.tab.n → M.tab.n ≤ j → j < O.tab.n → (O.T i).name.toList = (O.T j).name.toList → i = j

theorem Added.start {M O : MV} (h : MoreM M O) (he : O.ext.n = M.ext.n) (hg : O.glo.n = M.glo.n) (ht : O.tab.n = M.tab.n) : Added M O [] where
 more := h
 ne := by simp [he]
 ng := by simp [hg]
 nt := by simp [ht]
 ext := fun i a b => by omega
 glo := fun i a b => by omega
 glo0 := fun h => by simp at h
 glo2 := fun h => by simp at h
 ext1 := fun h => by simp at h
 tab := fun i a b => by omega
 dis := fun i j a b => by omega

theorem more_trans {M O O' : MV} (h : MoreM M O) (k : EqM O' O) : MoreM M O' := by
 have eqs : ∀ {a b c : Sl} {f g h : Nat → Int}, Eqs a b f g → Eqs b c g h → Eqs a c f h := fun x y => ⟨x.1.trans y.1, fun i hi => (x.2 i hi).trans (y.2 i (by rw [← x.1]; exact hi))⟩
 refine ⟨⟨by rw [k.ext.1]; exact h.ext.1, fun i hi => ?_⟩, ⟨by rw [k.glo.1]; exact h.glo.1, fun i hi => ?_⟩, ⟨by rw [k.tab.1]; exact h.tab.1, fun i hi => ?_⟩, ⟨by rw [k.fns.1]; exact h.fns.1, fun i hi => ?_⟩⟩
 ·have a := k.ext.2 i (by rw [k.ext.1]; have := h.ext.1; omega)
  have b := h.ext.2 i hi
  exact ⟨a.1.trans b.1, a.2.1.trans b.2.1, eqs a.2.2 b.2.2⟩
 ·have a := k.glo.2 i (by rw [k.glo.1]; have := h.glo.1; omega)
  have b := h.glo.2 i hi
  exact ⟨a.1.trans b.1, eqs a.2 b.2⟩
 ·have a := k.tab.2 i (by rw [k.tab.1]; have := h.tab.1; omega)
  have b := h.tab.2 i hi
  exact ⟨a.1.trans b.1, eqs a.2 b.2⟩
 ·have a := k.fns.2 i (by rw [k.fns.1, h.fns.1]; exact hi)
  have b := h.fns.2 i hi
  obtain ⟨a1, a2, a3, a4, a5, a6⟩ := a
  obtain ⟨b1, b2, b3, b4, b5, b6⟩ := b
  refine ⟨a1.trans b1, a2.trans b2, a3.trans b3, eqs a4 b4, a5.trans b5, fun j hj => ?_⟩
  obtain ⟨c1, c2⟩ := a6 j hj
  obtain ⟨d1, d2⟩ := b6 j (by rw [← a5]; exact hj)
  refine ⟨c1.trans d1, fun t ht => ?_⟩
  obtain ⟨p1, p2, p3, p4, p5, p6, p7⟩ := c2 t ht
  obtain ⟨q1, q2, q3, q4, q5, q6, q7⟩ := d2 t (by rw [← c1]; exact ht)
  exact ⟨p1.trans q1, p2.trans q2, p3.trans q3, p4.trans q4, p5.trans q5, eqs p6 q6, eqs p7 q7⟩

theorem toList_size {s t : ByteArray} (h : s.toList = t.toList) : s.size = t.size := by rw [bytes_inj h]

theorem Added.eq {M O O' : MV} {L : List Nat} (h : Added M O L) (k : EqM O' O) : Added M O' L where
 more := more_trans h.more k
 ne := by rw [k.ext.1]; exact h.ne
 ng := by rw [k.glo.1]; exact h.ng
 nt := by rw [k.tab.1]; exact h.nt
 ext := fun i a b => by
  obtain ⟨e1, e2, e3⟩ := k.ext.2 i b
  obtain ⟨x, y, z⟩ := h.ext i a (by rw [← k.ext.1]; exact b)
  exact ⟨by rw [e3.1]; exact x, by rw [e2]; exact y, by rw [toList_size e1]; exact z⟩
 glo := fun i a b => by
  obtain ⟨e1, e3⟩ := k.glo.2 i b
  obtain ⟨x, y, z⟩ := h.glo i a (by rw [← k.glo.1]; exact b)
  exact ⟨by rw [e3.1]; exact x, by rw [toList_size e1]; exact y, fun q => by rw [e3.1]; exact z q⟩
 glo0 := fun q => by
  obtain ⟨i, a, b⟩ := h.glo0 q
  have a' : i < O'.glo.n := by rw [k.glo.1]; exact a
  exact ⟨i, a', by rw [(k.glo.2 i a').2.1]; exact b⟩
 glo2 := fun q => by
  obtain ⟨i, a, b⟩ := h.glo2 q
  have a' : i < O'.glo.n := by rw [k.glo.1]; exact a
  exact ⟨i, a', (k.glo.2 i a').1.trans b⟩
 ext1 := fun q => by
  obtain ⟨i, a, b⟩ := h.ext1 q
  have a' : i < O'.ext.n := by rw [k.ext.1]; exact a
  exact ⟨i, a', by rw [(k.ext.2 i a').2.1]; exact b⟩
 tab := fun i a b => by
  obtain ⟨e1, e3⟩ := k.tab.2 i b
  obtain ⟨x, y, j, z, z'⟩ := h.tab i a (by rw [← k.tab.1]; exact b)
  exact ⟨by rw [e3.1]; exact x, by rw [e3.2 0 (by rw [e3.1, x]; decide)]; exact y, j, z, e1.trans z'⟩
 dis := fun i j a b c d q => h.dis i j a (by rw [← k.tab.1]; exact b) c (by rw [← k.tab.1]; exact d) (((k.tab.2 i b).1.symm.trans q).trans (k.tab.2 j d).1)

theorem refl_eqE (v : EV) (f : Nat → Int) : EqE v v f f := ⟨rfl, rfl, rfl, fun _ _ => rfl⟩
theorem refl_eqG (v : GV) (f : Nat → Int) : EqG v v f f := ⟨rfl, rfl, fun _ _ => rfl⟩

theorem Added.glo1 {M O : MV} {L : List Nat} (h : Added M O L) (s a : Sl) (nm : ByteArray) (C : Nat → Int) (hs : s.n = O.glo.n + 1) (x : Nat) (hx : (x = 0 ∧ a.n = 0) ∨ (x = 2 ∧ a.n = 1 ∧ nm = ⟨#[63]⟩)) (hz : nm.size ≤ 40) :
  Added M { O with glo := s, G := fun i => if i < O.glo.n then O.G i else ⟨nm, a⟩, GC := fun i => if i < O.glo.n then O.GC i else C } (L ++ [x]) where
 more := ⟨h.more.ext, ⟨by show M.glo.n ≤ s.n; have := h.more.glo.1; omega, fun i hi => by
  have hlt : i < O.glo.n := by have := h.more.glo.1; omega
  show EqG (if i < O.glo.n then O.G i else ⟨nm, a⟩) _ (if i < O.glo.n then O.GC i else C) _
  rw [if_pos hlt, if_pos hlt]
  exact h.more.glo.2 i hi⟩, h.more.tab, h.more.fns⟩
 ne := by show O.ext.n = _; rw [h.ne]; rcases hx with ⟨rfl, _⟩ | ⟨rfl, _⟩ <;> simp
 ng := by show s.n = _; rw [hs, h.ng]; rcases hx with ⟨rfl, _⟩ | ⟨rfl, _⟩ <;> simp <;> omega
 nt := by show O.tab.n = _; rw [h.nt]; rcases hx with ⟨rfl, _⟩ | ⟨rfl, _⟩ <;> simp
 ext := h.ext
 glo := fun i p q => by
  show (if i < O.glo.n then O.G i else ⟨nm, a⟩ : GV).cel.n ≤ 1 ∧ (if i < O.glo.n then O.G i else ⟨nm, a⟩ : GV).name.size ≤ 40 ∧ (0 ∉ L ++ [x] → (if i < O.glo.n then O.G i else ⟨nm, a⟩ : GV).cel.n = 1)
  by_cases hlt : i < O.glo.n
  ·rw [if_pos hlt]
   obtain ⟨u, v, z⟩ := h.glo i p hlt
   exact ⟨u, v, fun hn => z (fun hm => hn (List.mem_append_left _ hm))⟩
  ·rw [if_neg hlt]
   refine ⟨?_, hz, fun hn => ?_⟩
   ·rcases hx with ⟨_, e⟩ | ⟨_, e, _⟩ <;> (show a.n ≤ 1; omega)
   ·rcases hx with ⟨rfl, _⟩ | ⟨_, e, _⟩
    ·exact absurd (by simp) hn
    ·exact e
 glo0 := fun hm => by
  rcases List.mem_append.1 hm with q | q
  ·obtain ⟨i, hi, e⟩ := h.glo0 q
   refine ⟨i, by show i < s.n; omega, ?_⟩
   show (if i < O.glo.n then O.G i else ⟨nm, a⟩ : GV).cel.n = 0
   rw [if_pos hi]; exact e
  ·have : x = 0 := (List.mem_singleton.1 q).symm
   refine ⟨O.glo.n, by show _ < s.n; omega, ?_⟩
   show (if O.glo.n < O.glo.n then O.G O.glo.n else ⟨nm, a⟩ : GV).cel.n = 0
   rw [if_neg (Nat.lt_irrefl _)]
   rcases hx with ⟨_, e⟩ | ⟨e, _⟩
   ·exact e
   ·omega
 glo2 := fun hm => by
  rcases List.mem_append.1 hm with q | q
  ·obtain ⟨i, hi, e⟩ := h.glo2 q
   refine ⟨i, by show i < s.n; omega, ?_⟩
   show (if i < O.glo.n then O.G i else ⟨nm, a⟩ : GV).name.toList = _
   rw [if_pos hi]; exact e
  ·have : x = 2 := (List.mem_singleton.1 q).symm
   refine ⟨O.glo.n, by show _ < s.n; omega, ?_⟩
   show (if O.glo.n < O.glo.n then O.G O.glo.n else ⟨nm, a⟩ : GV).name.toList = _
   rw [if_neg (Nat.lt_irrefl _)]
   rcases hx with ⟨e, _⟩ | ⟨_, _, e⟩
   ·omega
   ·rw [e]
 ext1 := fun hm => by
  rcases List.mem_append.1 hm with q | q
  ·exact h.ext1 q
  ·have : x = 1 := (List.mem_singleton.1 q).symm
   rcases hx with ⟨e, _⟩ | ⟨e, _⟩ <;> omega
 tab := fun i p q => by
  obtain ⟨u, v, j, z, z'⟩ := h.tab i p q
  exact ⟨u, v, j, by simp; omega, z'⟩
 dis := h.dis

theorem Added.ext2 {M O : MV} {L : List Nat} (h : Added M O L) (s a : Sl) (nm : ByteArray) (C : Nat → Int) (hs : s.n = O.ext.n + 1) (ha : a.n = 0) (hz : nm.size ≤ 40) :
  Added M { O with ext := s, E := fun i => if i < O.ext.n then O.E i else ⟨nm, a, 3⟩, EP := fun i => if i < O.ext.n then O.EP i else C } (L ++ [1]) where
 more := ⟨⟨by show M.ext.n ≤ s.n; have := h.more.ext.1; omega, fun i hi => by
  have hlt : i < O.ext.n := by have := h.more.ext.1; omega
  show EqE (if i < O.ext.n then O.E i else ⟨nm, a, 3⟩) _ (if i < O.ext.n then O.EP i else C) _
  rw [if_pos hlt, if_pos hlt]
  exact h.more.ext.2 i hi⟩, h.more.glo, h.more.tab, h.more.fns⟩
 ne := by show s.n = _; rw [hs, h.ne]; simp; omega
 ng := by show O.glo.n = _; rw [h.ng]; simp
 nt := by show O.tab.n = _; rw [h.nt]; simp
 ext := fun i p q => by
  show (if i < O.ext.n then O.E i else ⟨nm, a, 3⟩ : EV).par.n = 0 ∧ (if i < O.ext.n then O.E i else ⟨nm, a, 3⟩ : EV).res = 3 ∧ (if i < O.ext.n then O.E i else ⟨nm, a, 3⟩ : EV).name.size ≤ 40
  by_cases hlt : i < O.ext.n
  ·rw [if_pos hlt]; exact h.ext i p hlt
  ·rw [if_neg hlt]; exact ⟨ha, rfl, hz⟩
 glo := fun i p q => by
  obtain ⟨u, v, z⟩ := h.glo i p q
  exact ⟨u, v, fun hn => z (fun hm => hn (List.mem_append_left _ hm))⟩
 glo0 := fun hm => h.glo0 (by rcases List.mem_append.1 hm with q | q; exact q; simp at q)
 glo2 := fun hm => h.glo2 (by rcases List.mem_append.1 hm with q | q; exact q; simp at q)
 ext1 := fun _ => by
  refine ⟨O.ext.n, by show _ < s.n; omega, ?_⟩
  show (if O.ext.n < O.ext.n then O.E O.ext.n else ⟨nm, a, 3⟩ : EV).res = 3
  rw [if_neg (Nat.lt_irrefl _)]
 tab := fun i p q => by
  obtain ⟨u, v, j, z, z'⟩ := h.tab i p q
  exact ⟨u, v, j, by simp; omega, z'⟩
 dis := h.dis

theorem nmX_ne {i j : Nat} (hi : i < 10) (hj : j < 10) (h : (nmX i).toList = (nmX j).toList) : i = j := by
 have := bytes_inj h
 have e := congrArg (fun s : ByteArray => s.data.toList) this
 simp only [List.cons.injEq, and_true, true_and] at e
 have e2 := congrArg UInt8.toNat e
 rw [UInt8.toNat_ofNat_of_lt' (by show 48 + i < 256; omega), UInt8.toNat_ofNat_of_lt' (by show 48 + j < 256; omega)] at e2
 omega

theorem Added.tab3 {M O : MV} {L : List Nat} (h : Added M O L) (hL : L.length < 9) (s a : Sl) (C : Nat → Int) (hs : s.n = O.tab.n + 1) (ha : a.n = 1) (hC : C 0 = -2) :
  Added M { O with tab := s, T := fun i => if i < O.tab.n then O.T i else ⟨nmX L.length, a⟩, TF := fun i => if i < O.tab.n then O.TF i else C } (L ++ [3]) where
 more := ⟨h.more.ext, h.more.glo, ⟨by show M.tab.n ≤ s.n; have := h.more.tab.1; omega, fun i hi => by
  have hlt : i < O.tab.n := by have := h.more.tab.1; omega
  show EqG (if i < O.tab.n then O.T i else ⟨nmX L.length, a⟩) _ (if i < O.tab.n then O.TF i else C) _
  rw [if_pos hlt, if_pos hlt]
  exact h.more.tab.2 i hi⟩, h.more.fns⟩
 ne := by show O.ext.n = _; rw [h.ne]; simp
 ng := by show O.glo.n = _; rw [h.ng]; simp
 nt := by show s.n = _; rw [hs, h.nt]; simp; omega
 ext := h.ext
 glo := fun i p q => by
  obtain ⟨u, v, z⟩ := h.glo i p q
  exact ⟨u, v, fun hn => z (fun hm => hn (List.mem_append_left _ hm))⟩
 glo0 := fun hm => h.glo0 (by rcases List.mem_append.1 hm with q | q; exact q; simp at q)
 glo2 := fun hm => h.glo2 (by rcases List.mem_append.1 hm with q | q; exact q; simp at q)
 ext1 := fun hm => h.ext1 (by rcases List.mem_append.1 hm with q | q; exact q; simp at q)
 tab := fun i p q => by
  show (if i < O.tab.n then O.T i else ⟨nmX L.length, a⟩ : GV).cel.n = 1 ∧ (if i < O.tab.n then O.TF i else C) 0 = -2 ∧ ∃ j, j < (L ++ [3]).length ∧ (if i < O.tab.n then O.T i else ⟨nmX L.length, a⟩ : GV).name.toList = (nmX j).toList
  by_cases hlt : i < O.tab.n
  ·rw [if_pos hlt, if_pos hlt]
   obtain ⟨u, v, j, z, z'⟩ := h.tab i p hlt
   exact ⟨u, v, j, by simp; omega, z'⟩
  ·rw [if_neg hlt, if_neg hlt]
   exact ⟨ha, hC, L.length, by simp, rfl⟩
 dis := fun i j p q r t e => by
  have hq : i < s.n := q
  have ht : j < s.n := t
  have e' : (if i < O.tab.n then O.T i else ⟨nmX L.length, a⟩ : GV).name.toList = (if j < O.tab.n then O.T j else ⟨nmX L.length, a⟩ : GV).name.toList := e
  by_cases h1 : i < O.tab.n
  ·by_cases h2 : j < O.tab.n
   ·rw [if_pos h1, if_pos h2] at e'
    exact h.dis i j p h1 r h2 e'
   ·rw [if_pos h1, if_neg h2] at e'
    obtain ⟨_, _, y, hy, hy'⟩ := h.tab i p h1
    have := nmX_ne (by omega) (by omega) (hy'.symm.trans e')
    omega
  ·by_cases h2 : j < O.tab.n
   ·rw [if_neg h1, if_pos h2] at e'
    obtain ⟨_, _, y, hy, hy'⟩ := h.tab j r h2
    have := nmX_ne (by omega) (by omega) (hy'.symm.trans e'.symm)
    omega
   ·omega

theorem small_added {M O : MV} {L : List Nat} (h : Added M O L) (hs : SmallM M) (hl : LimM M) (hg : M.glo.n ≤ 10) (ht : M.tab.n ≤ 4) (hL : L.length ≤ 2) (hF : ∀ i, i < M.fns.n → Light (O.F i)) : SmallM O := by
 have c1 := List.count_le_length (a := 1) (l := L)
 have c3 := List.count_le_length (a := 3) (l := L)
 have c02 : L.count 0 + L.count 2 ≤ L.length := by
  clear h c1 c3 hL
  induction L with
  | nil => simp
  | cons x l ih =>
   simp only [List.count_cons, List.length_cons]
   by_cases e0 : x = 0
   ·subst e0; simp; omega
   ·by_cases e2 : x = 2
    ·subst e2; simp; omega
    ·have : (x == 0) = false := by simpa using e0
     have : (x == 2) = false := by simpa using e2
     simp [*]; omega
 have e1 := h.ne
 have e2 := h.ng
 have e3 := h.nt
 have le := hl.ext
 refine ⟨by omega, by omega, by omega, by rw [h.more.fns.1]; exact hs.fns, fun i hi => ?_, fun i hi => ?_, fun i hi => ?_, fun i hi => hF i (by rw [← h.more.fns.1]; exact hi), ?_⟩
 ·by_cases q : i < M.ext.n
  ·obtain ⟨a, _, b⟩ := h.more.ext.2 i q
   rw [toList_size a, b.1]; exact hs.extI i q
  ·obtain ⟨a, _, b⟩ := h.ext i (by omega) hi
   exact ⟨b, by omega⟩
 ·by_cases q : i < M.glo.n
  ·obtain ⟨a, b⟩ := h.more.glo.2 i q
   rw [toList_size a, b.1]; exact hs.gloI i q
  ·obtain ⟨a, b, _⟩ := h.glo i (by omega) hi
   exact ⟨b, by omega⟩
 ·by_cases q : i < M.tab.n
  ·obtain ⟨a, b⟩ := h.more.tab.2 i q
   rw [toList_size a, b.1]; exact hs.tabI i q
  ·obtain ⟨a, _, j, _, b⟩ := h.tab i (by omega) hi
   rw [toList_size b]
   exact ⟨by show 3 ≤ 40; decide, by omega⟩
 ·rw [h.more.fns.1]
  have e : cnt (fun k => fsize (O.F k)) M.fns.n = cnt (fun k => fsize (M.F k)) M.fns.n := by
   have key : ∀ n, n ≤ M.fns.n → cnt (fun k => fsize (O.F k)) n = cnt (fun k => fsize (M.F k)) n := by
    intro n
    induction n with
    | zero => intro _; rfl
    | succ n ih => intro hn; simp only [cnt]; rw [ih (by omega), fsize_eq (h.more.fns.2 n (by omega))]
   exact key _ (Nat.le_refl _)
  rw [e]; exact hs.all

theorem nameX_ok : ∀ j, j < 2 → NameOk (nmX j) := by
 intro j hj
 have : j = 0 ∨ j = 1 := by omega
 rcases this with rfl | rfl
 ·refine ⟨by decide, by decide, by decide +kernel, by decide +kernel, fun i hi => ?_⟩
  have hi' : i < 3 := hi
  have : i = 0 ∨ i = 1 ∨ i = 2 := by omega
  rcases this with rfl | rfl | rfl <;> decide +kernel
 ·refine ⟨by decide, by decide, by decide +kernel, by decide +kernel, fun i hi => ?_⟩
  have hi' : i < 3 := hi
  have : i = 0 ∨ i = 1 ∨ i = 2 := by omega
  rcases this with rfl | rfl | rfl <;> decide +kernel

theorem err_over {M O : MV} {L : List Nat} (h : Added M O L) (hx : 12 < O.ext.n) : errM O = 2 := err_lim (fun hl => by have := hl.ext; omega)

theorem err_added {M O : MV} {a b : Nat} (h : Added M O [a, b]) (hM : FitM M) (hg : M.glo.n ≤ 10) (ht : M.tab.n ≤ 4) (hx : O.ext.n ≤ 12) (ha : a < 4) (hb : b < 4) (n0 : NotN M (nmX 0)) (n1 : NotN M (nmX 1)) :
  errM O = if min a b = 0 then 2 else if min a b = 1 then 1 else if min a b = 2 then 3 else 4 := by
 have e2 := h.ng
 have e3 := h.nt
 have c3 := List.count_le_length (a := 3) (l := [a, b])
 have c02 : [a, b].count 0 + [a, b].count 2 ≤ 2 := by
  simp only [List.count_cons, List.count_nil]
  have : a = 0 ∨ a = 1 ∨ a = 2 ∨ a = 3 := by omega
  have : b = 0 ∨ b = 1 ∨ b = 2 ∨ b = 3 := by omega
  rcases ‹a = 0 ∨ _› with rfl | rfl | rfl | rfl <;> rcases ‹b = 0 ∨ _› with rfl | rfl | rfl | rfl <;> decide
 simp only [List.length_cons, List.length_nil] at c3
 by_cases m0 : 0 ∈ [a, b]
 ·have hm : min a b = 0 := by simp at m0; omega
  rw [if_pos hm]
  obtain ⟨i, hi, e⟩ := h.glo0 m0
  exact err_lim (not_lim_glo hi e)
 have hl : LimM O := lim_more h.more hM.lim hx (by omega) (by omega) (fun i p q => by rw [(h.ext i p q).1]; decide) (fun i p q => by rw [(h.glo i p q).2.2 m0]; decide) (fun i p q => by rw [(h.tab i p q).1]; decide)
 have hm0 : ¬ min a b = 0 := by simp at m0; omega
 rw [if_neg hm0]
 by_cases m1 : 1 ∈ [a, b]
 ·have hm : min a b = 1 := by simp at m1; omega
  rw [if_pos hm]
  obtain ⟨i, hi, e⟩ := h.ext1 m1
  exact err_form hl (not_form_ext hi e)
 have hm1 : ¬ min a b = 1 := by simp at m1; omega
 rw [if_neg hm1]
 have z1 : [a, b].count 1 = 0 := List.count_eq_zero.2 m1
 have z0 : [a, b].count 0 = 0 := List.count_eq_zero.2 m0
 have he : O.ext.n = M.ext.n := by have := h.ne; omega
 have hf : FormM O := form_more h.more hM.form (fun i p q => by omega)
 by_cases m2 : 2 ∈ [a, b]
 ·have hm : min a b = 2 := by simp at m2 m0 m1; omega
  rw [if_pos hm]
  obtain ⟨i, hi, e⟩ := h.glo2 m2
  exact err_name hl hf (not_name_glo hi (by rw [bytes_inj e]; exact not_ok_mark))
 have hm2 : ¬ min a b = 2 := by simp at m2; omega
 rw [if_neg hm2]
 have z2 : [a, b].count 2 = 0 := List.count_eq_zero.2 m2
 have hgl : O.glo.n = M.glo.n := by omega
 have h33 : a = 3 ∧ b = 3 := by simp at m0 m1 m2; omega
 obtain ⟨rfl, rfl⟩ := h33
 have hnm : ∀ i, i < 2 → ∃ j, j < 2 ∧ (O.T (M.tab.n + i)).name = nmX j := fun i hi => by
  obtain ⟨_, _, j, hj, e⟩ := h.tab (M.tab.n + i) (by omega) (by have c33 : ([3, 3] : List Nat).count 3 = 2 := (by decide); omega)
  exact ⟨j, hj, bytes_inj e⟩
 have c33 : ([3, 3] : List Nat).count 3 = 2 := by decide
 have hn : NameM O := name_more h.more hM.name he hgl 2 (by omega) (fun i hi => by obtain ⟨j, hj, e⟩ := hnm i hi; rw [e]; exact nameX_ok j hj)
  (fun i hi => by
   obtain ⟨j, hj, e⟩ := hnm i hi
   rw [e]
   have : j = 0 ∨ j = 1 := by omega
   rcases this with rfl | rfl
   ·exact n0
   ·exact n1)
  (fun i j hi hj e => by
   have := h.dis (M.tab.n + i) (M.tab.n + j) (by omega) (by omega) (by omega) (by omega) (by rw [e])
   omega)
 refine err_sym hl hf hn (not_sym_tab (i := M.tab.n) (by omega) ?_ ?_)
 ·rw [(h.tab M.tab.n (Nat.le_refl _) (by omega)).1]; decide
 ·exact (h.tab M.tab.n (Nat.le_refl _) (by omega)).2.1

theorem own_len {w : World} {X T z n : Nat} {s : Sl} {xs : List Value} (h : w.ownsRow X T z (Own.slv s) n xs) : s.n = n := by
 obtain ⟨sa, sn, sc⟩ := s
 rcases h.2 with ⟨e, h0⟩ | ⟨g, cap, cur, e, _⟩
 ·simp only [Own.slv, Value.slice.injEq] at e
  obtain ⟨_, e2, _⟩ := e
  show sn = n
  omega
 ·simp only [Own.slv, Value.slice.injEq] at e
  exact e.2.1

theorem infoGl : (Tryz.prog.info? 47).map (fun i => (i.zero, i.size, i.bytes)) = some (some (.agg #[.string ByteArray.empty, .slice none 0 0]), 2, 40) := by kernel_rfl

theorem underGl : Tryz.prog.underlying 23 = some (.slice 47) := by kernel_rfl

theorem infoTb : (Tryz.prog.info? 49).map (fun i => (i.zero, i.size, i.bytes)) = some (some (.agg #[.string ByteArray.empty, .slice none 0 0]), 2, 40) := by kernel_rfl

theorem underTb : Tryz.prog.underlying 24 = some (.slice 49) := by kernel_rfl

theorem infoEx : (Tryz.prog.info? 54).map (fun i => (i.zero, i.size, i.bytes)) = some (some (.agg #[.string ByteArray.empty, .slice none 0 0, .int .i64 0]), 3, 48) := by kernel_rfl

theorem underEx : Tryz.prog.underlying 22 = some (.slice 54) := by kernel_rfl

theorem ints_new (w : World) (x : Int) (ty : TypeId) : Ints (w.alloc (.cells #[.int .i64 x] ty)) ⟨some ⟨w.heap.size, 0, none⟩, 1, 1⟩ (fun _ => x) := by
 refine ⟨Nat.le_refl _, by show 1 ≤ _; omega, fun h => by simp at h, fun _ => ⟨w.heap.size, 0, rfl, fun i hi => ?_⟩⟩
 obtain rfl : i = 0 := by simp at hi; omega
 simp

theorem eqI_refl (v : IV) (f g : Nat → Int) : EqI v v f g f g := ⟨rfl, rfl, rfl, rfl, rfl, ⟨rfl, fun _ _ => rfl⟩, rfl, fun _ _ => rfl⟩

theorem eqF_refl (F : FV) : EqF F F := ⟨rfl, rfl, rfl, ⟨rfl, fun _ _ => rfl⟩, rfl, fun j _ => ⟨rfl, fun k _ => eqI_refl _ _ _⟩⟩

theorem light_eq {F G : FV} (h : EqF F G) (hl : Light G) : Light F := by
 have hs := fsize_eq h
 obtain ⟨e1, _, _, e4, e5, e6⟩ := h
 refine ⟨?_, by rw [toList_size e1]; exact hl.name, by rw [e4.1]; exact hl.par, by rw [e5]; exact hl.blk, fun j hj => by rw [(e6 j hj).1]; exact hl.ins j (by rw [← e5]; exact hj), fun j hj k hk => ?_, fun j hj k hk => ?_⟩
 ·show fsize F ≤ 400
  rw [hs]; exact hl.all
 ·obtain ⟨_, _, _, _, _, q, _⟩ := (e6 j hj).2 k hk
  rw [q.1]; exact hl.args j (by rw [← e5]; exact hj) k (by rw [← (e6 j hj).1]; exact hk)
 ·obtain ⟨_, _, _, _, _, _, q⟩ := (e6 j hj).2 k hk
  rw [q.1]; exact hl.into j (by rw [← e5]; exact hj) k (by rw [← (e6 j hj).1]; exact hk)

theorem cell_at4 (w : World) (m e : Nat) (h : (m = 0 ∧ e = 2) ∨ (m = 1 ∧ e = 1) ∨ (m = 2 ∧ e = 3) ∨ (m = 3 ∧ e = 4)) : (World.alloc w (.cells #[.int .i64 2, .int .i64 1, .int .i64 3, .int .i64 4] 44)).drew.cell? ⟨w.heap.size, m, none⟩ = some (.int .i64 (e : Int)) := by
 rcases h with ⟨rfl, rfl⟩ | ⟨rfl, rfl⟩ | ⟨rfl, rfl⟩ | ⟨rfl, rfl⟩ <;> simp

end Go.Proofs.YtnodofbpogcheaaGreat.Wf

namespace Go.Proofs.YtnodofbpogcheaaGreat.Low
open Go.RowKit View Rd Num

set_option linter.unusedVariables false

theorem wrap_toInt (x : BitVec 64) : IntKind.i64.wrap (x.toNat : Int) = x.toInt := by
 rw [IntKind.wrap_i64, BitVec.toInt_eq_toNat_cond]
 have := x.isLt
 split <;> omega

theorem toNat_of (n : Int) : ((BitVec.ofInt 64 n).toNat : Int) = n % 18446744073709551616 := by
 rw [BitVec.toNat_ofInt]
 omega

theorem low8 (n : Int) : bits .and .i64 n 255 = n % 256 := by
 have hb : bits .and .i64 n 255 = (BitVec.ofInt 64 n &&& BitVec.ofInt 64 255).toInt := wrap_toInt _
 rw [hb, ← wrap_toInt, IntKind.wrap_i64, BitVec.toNat_and]
 have e : (BitVec.ofInt 64 255).toNat = 2 ^ 8 - 1 := rfl
 have t := toNat_of n
 rw [e, Nat.and_two_pow_sub_one_eq_mod]
 omega

end Go.Proofs.YtnodofbpogcheaaGreat.Low

namespace Go.Proofs.YtnodofbpogcheaaGreat.Lx
open Go.RowKit View Rd

set_option linter.unusedVariables false

def W64 (n : Int) : Prop := -9223372036854775808 ≤ n ∧ n ≤ 9223372036854775807

def shown (n : Int) : ByteArray := ⟨(Lib.itoa n).toArray⟩

def str (xs : List Int) : ByteArray := xs.foldl (fun r n => r.push (UInt8.ofNat n.toNat)) ByteArray.empty

theorem run_conv (wx : World) (a : Option Addr) (l c : Nat) (xs : List Int) (hx : xs.length = l)
  (h : 0 < l → ∃ b off, a = some ⟨b, off, none⟩ ∧ ∀ i, i < l → wx.cell? ⟨b, off + i, none⟩ = some (.int .u8 (xs.getD i 0))) :
  (convert 55 9 (.slice a l c)).run Tryz.prog wx = .ok (.string (str xs)) wx := by
 rw [run_convert_bytes_string wx 55 9 5 a l c Tryz.underlying55 Tryz.underlying5 Tryz.underlying9]
 subst hx
 cases a with
 | none =>
  have h0 : xs = [] := by
   cases xs with
   | nil => rfl
   | cons x xs => obtain ⟨b, off, hb, _⟩ := h (by simp); cases hb
  subst h0
  rfl
 | some ad =>
  refine run_bytesToString wx ad xs.length c xs ?_
  have := run_loadCells_list (P := Tryz.prog) wx ad (xs.map (Value.int .u8)) ?_
  ·simpa using this
  ·intro j v hj
   have hlt : j < xs.length := by have := (List.getElem?_eq_some_iff.1 hj).1; simpa using this
   obtain ⟨b, off, hb, hc⟩ := h (by omega)
   obtain rfl := Option.some.inj hb
   rw [Addr.add_lit, hc j hlt, ← hj]
   simp [hlt]

structure InB (w : World) (ao : Option Addr) (k c : Nat) (xs : List Int) : Prop where
 len : xs.length = k
 cap : k ≤ c
 nul : ao = none → k = 0 ∧ c = 0
 cell : 0 < k → ∃ b off, ao = some ⟨b, off, none⟩ ∧ ∀ i, i < k → w.cell? ⟨b, off + i, none⟩ = some (.int .u8 (xs.getD i 0))

theorem InB.on {w w' : World} {ao : Option Addr} {k c : Nat} {xs : List Int} (hb : Below w.heap.size w w') (h : InB w ao k c xs) : InB w' ao k c xs :=
 ⟨h.len, h.cap, h.nul, fun h0 => by
  obtain ⟨b, off, ha, hc⟩ := h.cell h0
  exact ⟨b, off, ha, fun i hi => cell_on hb (hc i hi)⟩⟩

theorem InB.nil (w : World) : InB w none 0 0 [] := ⟨rfl, Nat.le_refl _, fun _ => ⟨rfl, rfl⟩, fun h => absurd h (by omega)⟩

theorem InB.cells {w : World} {ad : Addr} {m c : Nat} {ys : List Int} (h : InB w (some ad) m c ys) : ∀ j u, (ys.map (Value.int .u8))[j]? = some u → w.cell? (ad.add j) = some u := by
 intro j u hu
 have hl := h.len
 have hj : j < m := by have := (List.getElem?_eq_some_iff.1 hu).1; simp at this; omega
 obtain ⟨b, off, hab, hcell⟩ := h.cell (by omega)
 obtain rfl := Option.some.inj hab
 rw [Addr.add_lit, hcell j hj, ← hu]
 simp [hl, hj]

def byt (xs : List Int) : List UInt8 := xs.map fun n => UInt8.ofNat n.toNat

def digitsS (u : Nat) : ByteArray := ⟨(Lib.decDigits u).toArray⟩

end Go.Proofs.YtnodofbpogcheaaGreat.Lx
