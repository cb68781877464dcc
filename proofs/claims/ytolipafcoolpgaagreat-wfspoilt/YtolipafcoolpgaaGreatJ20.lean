/-
  Wgp, Wgq, TurnE: laid together.
-/
import Derived.Test.YtolipafcoolpgaaGreatCopyR
import Derived.Test.YtolipafcoolpgaaGreatJ17
import Derived.Test.YtolipafcoolpgaaGreatJ7
/-
  A module in a variable whose rows grow: one more thing behind a row of a copy, the others stay.
-/
namespace Go.Proofs.YtolipafcoolpgaaGreat.CpM
open Go.RowKit View Rd Copy Srt Own Go.Proofs.YtolipafcoolpgaaGreat.Mod

set_option linter.unusedVariables false

def Bl {α : Type} (k : Nat) (v : Value) (Fp : α → Nat → Prop) (t : Nat → α) (b : Nat) : Prop := v.ownBlock = some b ∨ ∃ i, i < k ∧ Fp (t i) b

theorem bl_ge {α : Type} {X0 T z k : Nat} {w : World} {v : Value} {cs : Nat → α → List Value} {El : World → Nat → α → Prop} {Fp : α → Nat → Prop} {t : Nat → α} (g : Grow X0 T z k w v cs El Fp t) {b : Nat} (h : Bl k v Fp t b) : X0 ≤ b ∧ b < w.heap.size := by
 rcases h with h | ⟨i, hi, h⟩
 ·exact g.own.lt b h
 ·exact ⟨(g.fp i hi b h).1, (g.fp i hi b h).2.1⟩

theorem bl_up {α : Type} {X k : Nat} {v : Value} {Fp : α → Nat → Prop} {t : Nat → α} (u : Up X k v Fp t) {b : Nat} (h : Bl k v Fp t b) : b < X := by
 rcases h with h | ⟨i, hi, h⟩
 ·exact u.1 b h
 ·exact u.2 i hi b h

theorem Grow.keep2 {α : Type} {X0 T z k : Nat} {w w' : World} {v : Value} {cs : Nat → α → List Value} {El : World → Nat → α → Prop} {Fp : α → Nat → Prop} {t : Nat → α} (st : Stable El Fp) (h : Grow X0 T z k w v cs El Fp t) (hz : w.heap.size ≤ w'.heap.size)
  (hb : ∀ b, Bl k v Fp t b → w'.heap[b]? = w.heap[b]?) : Grow X0 T z k w' v cs El Fp t := by
 refine ⟨⟨h.own.1, ?_⟩, fun i hi => st w w' i _ (h.el i hi) hz (fun b hf _ => hb b (.inr ⟨i, hi, hf⟩)), fun i hi b hf => ⟨(h.fp i hi b hf).1, Nat.lt_of_lt_of_le (h.fp i hi b hf).2.1 hz, (h.fp i hi b hf).2.2⟩, h.dis⟩
 rcases h.own.2 with q | ⟨g, cap, cur, h1, h2, h3, h4⟩
 ·exact .inl q
 ·exact .inr ⟨g, cap, cur, h1, h2, by rw [hb g (.inl (by rw [h1]; rfl))]; exact h3, h4⟩

theorem Grow.congr {α : Type} {X0 T z k : Nat} {w : World} {v : Value} {cs cs' : Nat → α → List Value} {El El' : World → Nat → α → Prop} {Fp : α → Nat → Prop} {t : Nat → α} (h : Grow X0 T z k w v cs El Fp t)
  (hc : ∀ i a, i < k → cs' i a = cs i a) (he : ∀ i, i < k → El w i (t i) → El' w i (t i)) : Grow X0 T z k w v cs' El' Fp t :=
 ⟨by rw [fl_congr (d := fun i => cs i (t i)) (fun i hi => hc i _ hi)]; exact h.own, fun i hi => he i hi (h.el i hi), h.fp, h.dis⟩

theorem bl_step {α : Type} {k N : Nat} {v v' : Value} {Fp : α → Nat → Prop} {t : Nat → α} {a : α} {b : Nat} (hat : v'.ownBlock = v.ownBlock ∨ v'.ownBlock = some N) (h : Bl (k + 1) v' Fp (fun i => if i < k then t i else a) b) : Bl k v Fp t b ∨ Fp a b ∨ b = N := by
 rcases h with h | ⟨i, hi, h⟩
 ·rcases hat with e | e
  ·rw [e] at h; exact .inl (.inl h)
  ·rw [e] at h; exact .inr (.inr (Option.some.inj h).symm)
 ·by_cases q : i < k
  ·simp only [q, if_true] at h
   exact .inl (.inr ⟨i, q, h⟩)
  ·simp only [q, if_false] at h
   exact .inr (.inl h)

structure Ord (w : World) (V : Nat) (wr : World) (O : MV) (X1 X2 X3 X4 : Nat) (t1 t2 t3 : Nat → Sl) (t4 : Nat → FV) : Prop where
 box : MBox wr V O
 g1 : Grow X1 65 3 O.ext.n wr (slv O.ext) (csE O.E) (ElS (fun i => (O.E i).par.n) O.EP X1) FpS t1
 g2 : Grow X2 47 2 O.glo.n wr (slv O.glo) (csG O.G) (ElS (fun i => (O.G i).cel.n) O.GC X2) FpS t2
 g3 : Grow X3 49 2 O.tab.n wr (slv O.tab) (csG O.T) (ElS (fun i => (O.T i).cel.n) O.TF X3) FpS t3
 g4 : Grow X4 36 5 O.fns.n wr (slv O.fns) csF (ElR O.F X4) FpF t4
 d12 : ∀ b, Bl O.ext.n (slv O.ext) FpS t1 b → ¬ Bl O.glo.n (slv O.glo) FpS t2 b
 d13 : ∀ b, Bl O.ext.n (slv O.ext) FpS t1 b → ¬ Bl O.tab.n (slv O.tab) FpS t3 b
 d14 : ∀ b, Bl O.ext.n (slv O.ext) FpS t1 b → ¬ Bl O.fns.n (slv O.fns) FpF t4 b
 d23 : ∀ b, Bl O.glo.n (slv O.glo) FpS t2 b → ¬ Bl O.tab.n (slv O.tab) FpS t3 b
 d24 : ∀ b, Bl O.glo.n (slv O.glo) FpS t2 b → ¬ Bl O.fns.n (slv O.fns) FpF t4 b
 d34 : ∀ b, Bl O.tab.n (slv O.tab) FpS t3 b → ¬ Bl O.fns.n (slv O.fns) FpF t4 b
 v1 : ∀ b, Bl O.ext.n (slv O.ext) FpS t1 b → b ≠ V
 v2 : ∀ b, Bl O.glo.n (slv O.glo) FpS t2 b → b ≠ V
 v3 : ∀ b, Bl O.tab.n (slv O.tab) FpS t3 b → b ≠ V
 v4 : ∀ b, Bl O.fns.n (slv O.fns) FpF t4 b → b ≠ V
 fz : ∀ i, wr.frozen? ⟨V, i, none⟩ = false
 low : Below w.heap.size w wr
 vlt : V < wr.heap.size
 vge : w.heap.size ≤ V
 x : w.heap.size ≤ X1 ∧ w.heap.size ≤ X2 ∧ w.heap.size ≤ X3 ∧ w.heap.size ≤ X4
 y : X1 ≤ wr.heap.size ∧ X2 ≤ wr.heap.size ∧ X3 ≤ wr.heap.size ∧ X4 ≤ wr.heap.size

theorem Ord.on {w wr wx : World} {V : Nat} {O : MV} {X1 X2 X3 X4 : Nat} {t1 t2 t3 : Nat → Sl} {t4 : Nat → FV} (h : Ord w V wr O X1 X2 X3 X4 t1 t2 t3 t4) (hb : Below wr.heap.size wr wx) : Ord w V wx O X1 X2 X3 X4 t1 t2 t3 t4 := by
 have z := hb.size
 obtain ⟨y1, y2, y3, y4⟩ := h.y
 exact ⟨h.box.on hb, h.g1.keep (elS_stable _ _ _) z (fun b _ q => hb.block b q), h.g2.keep (elS_stable _ _ _) z (fun b _ q => hb.block b q), h.g3.keep (elS_stable _ _ _) z (fun b _ q => hb.block b q), h.g4.keep (elR_stable _ _) z (fun b _ q => hb.block b q),
  h.d12, h.d13, h.d14, h.d23, h.d24, h.d34, h.v1, h.v2, h.v3, h.v4, fun i => by rw [hb.frozen h.vlt]; exact h.fz i, more h.low hb, Nat.lt_of_lt_of_le h.vlt z, h.vge, h.x, ⟨Nat.le_trans y1 z, Nat.le_trans y2 z, Nat.le_trans y3 z, Nat.le_trans y4 z⟩⟩

theorem Ord.start {M : MV} {w ws wr : World} {V : Nat} {s1 s2 s3 s4 : Sl} {X1 X2 X3 X4 : Nat} {t1 t2 t3 : Nat → Sl} {t4 : Nat → FV} (h : GrM M ws s1 s2 s3 s4 X1 X2 X3 X4 t1 t2 t3 t4) (hn : s1.n = M.ext.n ∧ s2.n = M.glo.n ∧ s3.n = M.tab.n ∧ s4.n = M.fns.n)
  (hw : Below w.heap.size w wr) (hb : Below ws.heap.size ws wr) (hV : ws.heap.size ≤ V) (hx : w.heap.size ≤ X1) (hV2 : V < wr.heap.size) (fz : ∀ i, wr.frozen? ⟨V, i, none⟩ = false) (O : MV) (hO : O = { M with ext := s1, glo := s2, tab := s3, fns := s4 }) (bx : MBox wr V O) : Ord w V wr O X1 X2 X3 X4 t1 t2 t3 t4 := by
 have x12 := h.x12
 have x23 := h.x23
 have x34 := h.x34
 have x4 := h.x4
 have z := hb.size
 obtain ⟨n1, n2, n3, n4⟩ := hn
 have zw : w.heap.size ≤ X1 := hx
 subst hO
 have e1 := h.g1
 have e2 := h.g2
 have e3 := h.g3
 have e4 := h.g4
 have u1 := h.u1
 have u2 := h.u2
 have u3 := h.u3
 rw [← n1] at e1 u1
 rw [← n2] at e2 u2
 rw [← n3] at e3 u3
 rw [← n4] at e4
 refine ⟨bx, e1.keep (elS_stable _ _ _) z (fun b _ q => hb.block b q), e2.keep (elS_stable _ _ _) z (fun b _ q => hb.block b q), e3.keep (elS_stable _ _ _) z (fun b _ q => hb.block b q), e4.keep (elR_stable _ _) z (fun b _ q => hb.block b q),
  fun b p q => ?_, fun b p q => ?_, fun b p q => ?_, fun b p q => ?_, fun b p q => ?_, fun b p q => ?_, fun b p q => ?_, fun b p q => ?_, fun b p q => ?_, fun b p q => ?_, fz, hw, hV2, by omega, ⟨by omega, by omega, by omega, by omega⟩, ⟨by omega, by omega, by omega, by omega⟩⟩
 ·have := bl_up u1 p; have := bl_ge e2 q; omega
 ·have := bl_up u1 p; have := bl_ge e3 q; omega
 ·have := bl_up u1 p; have := bl_ge e4 q; omega
 ·have := bl_up u2 p; have := bl_ge e3 q; omega
 ·have := bl_up u2 p; have := bl_ge e4 q; omega
 ·have := bl_up u3 p; have := bl_ge e4 q; omega
 ·have := bl_ge e1 p; omega
 ·have := bl_ge e2 p; omega
 ·have := bl_ge e3 p; omega
 ·have := bl_ge e4 p; omega

theorem Ord.ext {w wr w2 w4 : World} {V : Nat} {O : MV} {X1 X2 X3 X4 : Nat} {t1 t2 t3 : Nat → Sl} {t4 : Nat → FV} (h : Ord w V wr O X1 X2 X3 X4 t1 t2 t3 t4) (nm : ByteArray) (res : Int) (a s' : Sl) (C : Nat → Int) {ob : Obj} (hb2 : Below wr.heap.size wr w2) (ha : Ints w2 a C) (hm : Mine wr.heap.size w2.heap.size w2 a)
  (hn : s'.n = O.ext.n + 1) (own4 : w4.ownsRow X1 65 3 (slv s') (O.ext.n + 1) (fl (fun i => csE O.E i (t1 i)) O.ext.n ++ [.string nm, .slice a.a a.n a.c, .int .i64 res])) (gr : (w2.alloc ob).grownBy w4 (slv O.ext).ownBlock) (hat : (slv s').ownBlock = (slv O.ext).ownBlock ∨ (slv s').ownBlock = some (w2.heap.size + 1)) :
  Ord w V (w4.setCell ⟨V, 0, none⟩ (slv s')) { O with ext := s', E := fun i => if i < O.ext.n then O.E i else ⟨nm, a, res⟩, EP := fun i => if i < O.ext.n then O.EP i else C } X1 X2 X3 X4 (fun i => if i < O.ext.n then t1 i else a) t2 t3 t4 := by
 obtain ⟨x1, x2, x3, x4⟩ := h.x
 obtain ⟨y1, y2, y3, y4⟩ := h.y
 have vlt := h.vlt
 have vge := h.vge
 have z2 := hb2.size
 have z4 := gr.size
 simp only [World.size_alloc] at z4
 have kb : ∀ b, b < wr.heap.size → some b ≠ (slv O.ext).ownBlock → w4.heap[b]? = wr.heap[b]? := fun b hb hne => by rw [gr.block b (by simp; omega) hne, Below.heap_alloc _ _ _ (by omega), hb2.block b hb]
 have kf : ∀ b, b < wr.heap.size → b ≠ V → some b ≠ (slv O.ext).ownBlock → (w4.setCell ⟨V, 0, none⟩ (slv s')).heap[b]? = wr.heap[b]? := fun b hb hV hne => by rw [Below.heap_setCell _ _ _ _ hV, kb b hb hne]
 have nV : some V ≠ (slv O.ext).ownBlock := fun e => h.v1 V (.inl e.symm) rfl
 have fa : ∀ b, FpS a b → wr.heap.size ≤ b ∧ b < w2.heap.size := fun b hb => by rw [hb.2]; have := mine_blk hm hb.1; exact ⟨this.2.1, this.2.2.1⟩
 have g0 : Grow X1 65 3 O.ext.n wr (slv O.ext) (csE (fun i => if i < O.ext.n then O.E i else ⟨nm, a, res⟩)) (ElS (fun i => ((fun i => if i < O.ext.n then O.E i else ⟨nm, a, res⟩) i).par.n) (fun i => if i < O.ext.n then O.EP i else C) X1) FpS t1 :=
  h.g1.congr (fun i a hi => by simp [csE, hi]) (fun i hi q => ⟨by simp only [hi, if_true]; exact q.1, by simp only [hi, if_true]; exact q.2.1, q.2.2⟩)
 have el : ElS (fun i => ((fun i => if i < O.ext.n then O.E i else ⟨nm, a, res⟩) i).par.n) (fun i => if i < O.ext.n then O.EP i else C) X1 w2 O.ext.n a := ⟨by simp, by simp only [Nat.lt_irrefl, if_false]; exact ha, hm.wide (by omega) (Nat.le_refl _)⟩
 have own4' : w4.ownsRow X1 65 3 (slv s') (O.ext.n + 1) (fl (fun i => csE (fun i => if i < O.ext.n then O.E i else ⟨nm, a, res⟩) i (t1 i)) O.ext.n ++ csE (fun i => if i < O.ext.n then O.E i else ⟨nm, a, res⟩) O.ext.n a) := by
  rw [fl_congr (d := fun i => csE O.E i (t1 i)) (fun i hi => by simp [csE, hi])]
  simp only [csE, Nat.lt_irrefl, if_false]
  exact own4
 have g1 := g0.stepx (elS_stable _ _ _) (by omega) hb2 el fa own4' gr hat
 have bs : ∀ b, Bl (O.ext.n + 1) (slv s') FpS (fun i => if i < O.ext.n then t1 i else a) b → Bl O.ext.n (slv O.ext) FpS t1 b ∨ wr.heap.size ≤ b := fun b hb => by
  rcases bl_step hat hb with q | q | q
  ·exact .inl q
  ·exact .inr (fa b q).1
  ·exact .inr (by omega)
 have vv : ∀ b, Bl (O.ext.n + 1) (slv s') FpS (fun i => if i < O.ext.n then t1 i else a) b → b ≠ V := fun b hb => by
  rcases bs b hb with q | q
  ·exact h.v1 b q
  ·omega
 have g2 := g1.keep2 (w' := w4.setCell ⟨V, 0, none⟩ (slv s')) (elS_stable _ _ _) (by simp) (fun b hb => Below.heap_setCell _ _ _ _ (vv b hb))
 have sz : wr.heap.size ≤ (w4.setCell ⟨V, 0, none⟩ (slv s')).heap.size := by simp; omega
 rw [← hn] at g2 bs vv
 refine ⟨?_, g2, h.g2.keep2 (elS_stable _ _ _) sz (fun b p => kf b (bl_ge h.g2 p).2 (h.v2 b p) (fun e => by have q : Bl O.ext.n (slv O.ext) FpS t1 b := .inl e.symm; exact h.d12 _ q p)), h.g3.keep2 (elS_stable _ _ _) sz (fun b p => kf b (bl_ge h.g3 p).2 (h.v3 b p) (fun e => by have q : Bl O.ext.n (slv O.ext) FpS t1 b := .inl e.symm; exact h.d13 _ q p)), h.g4.keep2 (elR_stable _ _) sz (fun b p => kf b (bl_ge h.g4 p).2 (h.v4 b p) (fun e => by have q : Bl O.ext.n (slv O.ext) FpS t1 b := .inl e.symm; exact h.d14 _ q p)), ?_, ?_, ?_, h.d23, h.d24, h.d34, vv, h.v2, h.v3, h.v4, fun i => ?_, ?_, by omega, vge, h.x, ⟨by omega, by omega, by omega, by omega⟩⟩
 ·exact ⟨by exact cell_same (u := slv O.ext) (by rw [World.cell?_of_block (w := wr) (kb V vlt nV)]; exact h.box.c0), by rw [World.cell?_setCell_other (h := ne_off (by decide)), World.cell?_of_block (w := wr) (kb V vlt nV)]; exact h.box.c1, by rw [World.cell?_setCell_other (h := ne_off (by decide)), World.cell?_of_block (w := wr) (kb V vlt nV)]; exact h.box.c2, by rw [World.cell?_setCell_other (h := ne_off (by decide)), World.cell?_of_block (w := wr) (kb V vlt nV)]; exact h.box.c3⟩
 ·exact fun b p q => by
   rcases bs b p with p | p
   ·exact h.d12 b p q
   ·have := (bl_ge h.g2 q).2; omega
 ·exact fun b p q => by
   rcases bs b p with p | p
   ·exact h.d13 b p q
   ·have := (bl_ge h.g3 q).2; omega
 ·exact fun b p q => by
   rcases bs b p with p | p
   ·exact h.d14 b p q
   ·have := (bl_ge h.g4 q).2; omega
 ·rw [World.frozen?_setCell, World.frozen?_of_block (w := wr) (kb V vlt nV)]; exact h.fz i
 ·refine Below.setCell ?_ (by show _ ≤ V; omega) _
  refine ((more h.low hb2).alloc (by have := h.low.size; omega) _).grown gr (by simp; have := h.low.size; omega) (fun g hg => ?_)
  have := bl_ge h.g1 (.inl hg)
  omega

theorem Ord.glo {w wr w2 w4 : World} {V : Nat} {O : MV} {X1 X2 X3 X4 : Nat} {t1 t2 t3 : Nat → Sl} {t4 : Nat → FV} (h : Ord w V wr O X1 X2 X3 X4 t1 t2 t3 t4) (nm : ByteArray) (a s' : Sl) (C : Nat → Int) {ob : Obj} (hb2 : Below wr.heap.size wr w2) (ha : Ints w2 a C) (hm : Mine wr.heap.size w2.heap.size w2 a)
  (hn : s'.n = O.glo.n + 1) (own4 : w4.ownsRow X2 47 2 (slv s') (O.glo.n + 1) (fl (fun i => csG O.G i (t2 i)) O.glo.n ++ [.string nm, .slice a.a a.n a.c])) (gr : (w2.alloc ob).grownBy w4 (slv O.glo).ownBlock) (hat : (slv s').ownBlock = (slv O.glo).ownBlock ∨ (slv s').ownBlock = some (w2.heap.size + 1)) :
  Ord w V (w4.setCell ⟨V, 1, none⟩ (slv s')) { O with glo := s', G := fun i => if i < O.glo.n then O.G i else ⟨nm, a⟩, GC := fun i => if i < O.glo.n then O.GC i else C } X1 X2 X3 X4 t1 (fun i => if i < O.glo.n then t2 i else a) t3 t4 := by
 obtain ⟨x1, x2, x3, x4⟩ := h.x
 obtain ⟨y1, y2, y3, y4⟩ := h.y
 have vlt := h.vlt
 have vge := h.vge
 have z2 := hb2.size
 have z4 := gr.size
 simp only [World.size_alloc] at z4
 have kb : ∀ b, b < wr.heap.size → some b ≠ (slv O.glo).ownBlock → w4.heap[b]? = wr.heap[b]? := fun b hb hne => by rw [gr.block b (by simp; omega) hne, Below.heap_alloc _ _ _ (by omega), hb2.block b hb]
 have kf : ∀ b, b < wr.heap.size → b ≠ V → some b ≠ (slv O.glo).ownBlock → (w4.setCell ⟨V, 1, none⟩ (slv s')).heap[b]? = wr.heap[b]? := fun b hb hV hne => by rw [Below.heap_setCell _ _ _ _ hV, kb b hb hne]
 have nV : some V ≠ (slv O.glo).ownBlock := fun e => h.v2 V (.inl e.symm) rfl
 have fa : ∀ b, FpS a b → wr.heap.size ≤ b ∧ b < w2.heap.size := fun b hb => by rw [hb.2]; have := mine_blk hm hb.1; exact ⟨this.2.1, this.2.2.1⟩
 have g0 : Grow X2 47 2 O.glo.n wr (slv O.glo) (csG (fun i => if i < O.glo.n then O.G i else ⟨nm, a⟩)) (ElS (fun i => ((fun i => if i < O.glo.n then O.G i else ⟨nm, a⟩) i).cel.n) (fun i => if i < O.glo.n then O.GC i else C) X2) FpS t2 :=
  h.g2.congr (fun i a hi => by simp [csG, hi]) (fun i hi q => ⟨by simp only [hi, if_true]; exact q.1, by simp only [hi, if_true]; exact q.2.1, q.2.2⟩)
 have el : ElS (fun i => ((fun i => if i < O.glo.n then O.G i else ⟨nm, a⟩) i).cel.n) (fun i => if i < O.glo.n then O.GC i else C) X2 w2 O.glo.n a := ⟨by simp, by simp only [Nat.lt_irrefl, if_false]; exact ha, hm.wide (by omega) (Nat.le_refl _)⟩
 have own4' : w4.ownsRow X2 47 2 (slv s') (O.glo.n + 1) (fl (fun i => csG (fun i => if i < O.glo.n then O.G i else ⟨nm, a⟩) i (t2 i)) O.glo.n ++ csG (fun i => if i < O.glo.n then O.G i else ⟨nm, a⟩) O.glo.n a) := by
  rw [fl_congr (d := fun i => csG O.G i (t2 i)) (fun i hi => by simp [csG, hi])]
  simp only [csG, Nat.lt_irrefl, if_false]
  exact own4
 have g1 := g0.stepx (elS_stable _ _ _) (by omega) hb2 el fa own4' gr hat
 have bs : ∀ b, Bl (O.glo.n + 1) (slv s') FpS (fun i => if i < O.glo.n then t2 i else a) b → Bl O.glo.n (slv O.glo) FpS t2 b ∨ wr.heap.size ≤ b := fun b hb => by
  rcases bl_step hat hb with q | q | q
  ·exact .inl q
  ·exact .inr (fa b q).1
  ·exact .inr (by omega)
 have vv : ∀ b, Bl (O.glo.n + 1) (slv s') FpS (fun i => if i < O.glo.n then t2 i else a) b → b ≠ V := fun b hb => by
  rcases bs b hb with q | q
  ·exact h.v2 b q
  ·omega
 have g2 := g1.keep2 (w' := w4.setCell ⟨V, 1, none⟩ (slv s')) (elS_stable _ _ _) (by simp) (fun b hb => Below.heap_setCell _ _ _ _ (vv b hb))
 have sz : wr.heap.size ≤ (w4.setCell ⟨V, 1, none⟩ (slv s')).heap.size := by simp; omega
 rw [← hn] at g2 bs vv
 refine ⟨?_, h.g1.keep2 (elS_stable _ _ _) sz (fun b p => kf b (bl_ge h.g1 p).2 (h.v1 b p) (fun e => by have q : Bl O.glo.n (slv O.glo) FpS t2 b := .inl e.symm; exact h.d12 _ p q)), g2, h.g3.keep2 (elS_stable _ _ _) sz (fun b p => kf b (bl_ge h.g3 p).2 (h.v3 b p) (fun e => by have q : Bl O.glo.n (slv O.glo) FpS t2 b := .inl e.symm; exact h.d23 _ q p)), h.g4.keep2 (elR_stable _ _) sz (fun b p => kf b (bl_ge h.g4 p).2 (h.v4 b p) (fun e => by have q : Bl O.glo.n (slv O.glo) FpS t2 b := .inl e.symm; exact h.d24 _ q p)), ?_, h.d13, h.d14, ?_, ?_, h.d34, h.v1, vv, h.v3, h.v4, fun i => ?_, ?_, by omega, vge, h.x, ⟨by omega, by omega, by omega, by omega⟩⟩
 ·exact ⟨by rw [World.cell?_setCell_other (h := ne_off (by decide)), World.cell?_of_block (w := wr) (kb V vlt nV)]; exact h.box.c0, by exact cell_same (u := slv O.glo) (by rw [World.cell?_of_block (w := wr) (kb V vlt nV)]; exact h.box.c1), by rw [World.cell?_setCell_other (h := ne_off (by decide)), World.cell?_of_block (w := wr) (kb V vlt nV)]; exact h.box.c2, by rw [World.cell?_setCell_other (h := ne_off (by decide)), World.cell?_of_block (w := wr) (kb V vlt nV)]; exact h.box.c3⟩
 ·exact fun b p q => by
   rcases bs b q with q | q
   ·exact h.d12 b p q
   ·have := (bl_ge h.g1 p).2; omega
 ·exact fun b p q => by
   rcases bs b p with p | p
   ·exact h.d23 b p q
   ·have := (bl_ge h.g3 q).2; omega
 ·exact fun b p q => by
   rcases bs b p with p | p
   ·exact h.d24 b p q
   ·have := (bl_ge h.g4 q).2; omega
 ·rw [World.frozen?_setCell, World.frozen?_of_block (w := wr) (kb V vlt nV)]; exact h.fz i
 ·refine Below.setCell ?_ (by show _ ≤ V; omega) _
  refine ((more h.low hb2).alloc (by have := h.low.size; omega) _).grown gr (by simp; have := h.low.size; omega) (fun g hg => ?_)
  have := bl_ge h.g2 (.inl hg)
  omega

theorem Ord.tab {w wr w2 w4 : World} {V : Nat} {O : MV} {X1 X2 X3 X4 : Nat} {t1 t2 t3 : Nat → Sl} {t4 : Nat → FV} (h : Ord w V wr O X1 X2 X3 X4 t1 t2 t3 t4) (nm : ByteArray) (a s' : Sl) (C : Nat → Int) {ob : Obj} (hb2 : Below wr.heap.size wr w2) (ha : Ints w2 a C) (hm : Mine wr.heap.size w2.heap.size w2 a)
  (hn : s'.n = O.tab.n + 1) (own4 : w4.ownsRow X3 49 2 (slv s') (O.tab.n + 1) (fl (fun i => csG O.T i (t3 i)) O.tab.n ++ [.string nm, .slice a.a a.n a.c])) (gr : (w2.alloc ob).grownBy w4 (slv O.tab).ownBlock) (hat : (slv s').ownBlock = (slv O.tab).ownBlock ∨ (slv s').ownBlock = some (w2.heap.size + 1)) :
  Ord w V (w4.setCell ⟨V, 2, none⟩ (slv s')) { O with tab := s', T := fun i => if i < O.tab.n then O.T i else ⟨nm, a⟩, TF := fun i => if i < O.tab.n then O.TF i else C } X1 X2 X3 X4 t1 t2 (fun i => if i < O.tab.n then t3 i else a) t4 := by
 obtain ⟨x1, x2, x3, x4⟩ := h.x
 obtain ⟨y1, y2, y3, y4⟩ := h.y
 have vlt := h.vlt
 have vge := h.vge
 have z2 := hb2.size
 have z4 := gr.size
 simp only [World.size_alloc] at z4
 have kb : ∀ b, b < wr.heap.size → some b ≠ (slv O.tab).ownBlock → w4.heap[b]? = wr.heap[b]? := fun b hb hne => by rw [gr.block b (by simp; omega) hne, Below.heap_alloc _ _ _ (by omega), hb2.block b hb]
 have kf : ∀ b, b < wr.heap.size → b ≠ V → some b ≠ (slv O.tab).ownBlock → (w4.setCell ⟨V, 2, none⟩ (slv s')).heap[b]? = wr.heap[b]? := fun b hb hV hne => by rw [Below.heap_setCell _ _ _ _ hV, kb b hb hne]
 have nV : some V ≠ (slv O.tab).ownBlock := fun e => h.v3 V (.inl e.symm) rfl
 have fa : ∀ b, FpS a b → wr.heap.size ≤ b ∧ b < w2.heap.size := fun b hb => by rw [hb.2]; have := mine_blk hm hb.1; exact ⟨this.2.1, this.2.2.1⟩
 have g0 : Grow X3 49 2 O.tab.n wr (slv O.tab) (csG (fun i => if i < O.tab.n then O.T i else ⟨nm, a⟩)) (ElS (fun i => ((fun i => if i < O.tab.n then O.T i else ⟨nm, a⟩) i).cel.n) (fun i => if i < O.tab.n then O.TF i else C) X3) FpS t3 :=
  h.g3.congr (fun i a hi => by simp [csG, hi]) (fun i hi q => ⟨by simp only [hi, if_true]; exact q.1, by simp only [hi, if_true]; exact q.2.1, q.2.2⟩)
 have el : ElS (fun i => ((fun i => if i < O.tab.n then O.T i else ⟨nm, a⟩) i).cel.n) (fun i => if i < O.tab.n then O.TF i else C) X3 w2 O.tab.n a := ⟨by simp, by simp only [Nat.lt_irrefl, if_false]; exact ha, hm.wide (by omega) (Nat.le_refl _)⟩
 have own4' : w4.ownsRow X3 49 2 (slv s') (O.tab.n + 1) (fl (fun i => csG (fun i => if i < O.tab.n then O.T i else ⟨nm, a⟩) i (t3 i)) O.tab.n ++ csG (fun i => if i < O.tab.n then O.T i else ⟨nm, a⟩) O.tab.n a) := by
  rw [fl_congr (d := fun i => csG O.T i (t3 i)) (fun i hi => by simp [csG, hi])]
  simp only [csG, Nat.lt_irrefl, if_false]
  exact own4
 have g1 := g0.stepx (elS_stable _ _ _) (by omega) hb2 el fa own4' gr hat
 have bs : ∀ b, Bl (O.tab.n + 1) (slv s') FpS (fun i => if i < O.tab.n then t3 i else a) b → Bl O.tab.n (slv O.tab) FpS t3 b ∨ wr.heap.size ≤ b := fun b hb => by
  rcases bl_step hat hb with q | q | q
  ·exact .inl q
  ·exact .inr (fa b q).1
  ·exact .inr (by omega)
 have vv : ∀ b, Bl (O.tab.n + 1) (slv s') FpS (fun i => if i < O.tab.n then t3 i else a) b → b ≠ V := fun b hb => by
  rcases bs b hb with q | q
  ·exact h.v3 b q
  ·omega
 have g2 := g1.keep2 (w' := w4.setCell ⟨V, 2, none⟩ (slv s')) (elS_stable _ _ _) (by simp) (fun b hb => Below.heap_setCell _ _ _ _ (vv b hb))
 have sz : wr.heap.size ≤ (w4.setCell ⟨V, 2, none⟩ (slv s')).heap.size := by simp; omega
 rw [← hn] at g2 bs vv
 refine ⟨?_, h.g1.keep2 (elS_stable _ _ _) sz (fun b p => kf b (bl_ge h.g1 p).2 (h.v1 b p) (fun e => by have q : Bl O.tab.n (slv O.tab) FpS t3 b := .inl e.symm; exact h.d13 _ p q)), h.g2.keep2 (elS_stable _ _ _) sz (fun b p => kf b (bl_ge h.g2 p).2 (h.v2 b p) (fun e => by have q : Bl O.tab.n (slv O.tab) FpS t3 b := .inl e.symm; exact h.d23 _ p q)), g2, h.g4.keep2 (elR_stable _ _) sz (fun b p => kf b (bl_ge h.g4 p).2 (h.v4 b p) (fun e => by have q : Bl O.tab.n (slv O.tab) FpS t3 b := .inl e.symm; exact h.d34 _ q p)), h.d12, ?_, h.d14, ?_, h.d24, ?_, h.v1, h.v2, vv, h.v4, fun i => ?_, ?_, by omega, vge, h.x, ⟨by omega, by omega, by omega, by omega⟩⟩
 ·exact ⟨by rw [World.cell?_setCell_other (h := ne_off (by decide)), World.cell?_of_block (w := wr) (kb V vlt nV)]; exact h.box.c0, by rw [World.cell?_setCell_other (h := ne_off (by decide)), World.cell?_of_block (w := wr) (kb V vlt nV)]; exact h.box.c1, by exact cell_same (u := slv O.tab) (by rw [World.cell?_of_block (w := wr) (kb V vlt nV)]; exact h.box.c2), by rw [World.cell?_setCell_other (h := ne_off (by decide)), World.cell?_of_block (w := wr) (kb V vlt nV)]; exact h.box.c3⟩
 ·exact fun b p q => by
   rcases bs b q with q | q
   ·exact h.d13 b p q
   ·have := (bl_ge h.g1 p).2; omega
 ·exact fun b p q => by
   rcases bs b q with q | q
   ·exact h.d23 b p q
   ·have := (bl_ge h.g2 p).2; omega
 ·exact fun b p q => by
   rcases bs b p with p | p
   ·exact h.d34 b p q
   ·have := (bl_ge h.g4 q).2; omega
 ·rw [World.frozen?_setCell, World.frozen?_of_block (w := wr) (kb V vlt nV)]; exact h.fz i
 ·refine Below.setCell ?_ (by show _ ≤ V; omega) _
  refine ((more h.low hb2).alloc (by have := h.low.size; omega) _).grown gr (by simp; have := h.low.size; omega) (fun g hg => ?_)
  have := bl_ge h.g3 (.inl hg)
  omega

end Go.Proofs.YtolipafcoolpgaaGreat.CpM

/-
  WfOrder plainly: a module that may be, and one or two things more that may not.
-/
namespace Go.Proofs.YtolipafcoolpgaaGreat.Wf
open Go.RowKit View Rd Num Opn Copy Srt Go.Proofs.YtolipafcoolpgaaGreat.Mod Chk Flo CpM

set_option linter.unusedVariables false

theorem jng_eq {F G : FV} (h : EqF F G) (hj : Jng G) : Jng F := fun j hj' k hk t ht => by
 obtain ⟨_, _, _, _, hb, hB⟩ := h
 obtain ⟨e1, e2⟩ := hB j hj'
 obtain ⟨_, _, _, _, _, _, e3⟩ := e2 k hk
 rw [e3.2 t ht]
 exact hj j (by rw [← hb]; exact hj') k (by rw [← e1]; exact hk) t (by rw [← e3.1]; exact ht)

theorem refl_eqE (v : EV) (f : Nat → Int) : EqE v v f f := ⟨rfl, rfl, rfl, fun _ _ => rfl⟩
theorem refl_eqG (v : GV) (f : Nat → Int) : EqG v v f f := ⟨rfl, rfl, fun _ _ => rfl⟩

theorem own_len {w : World} {X T z n : Nat} {s : Sl} {xs : List Value} (h : w.ownsRow X T z (Own.slv s) n xs) : s.n = n := by
 obtain ⟨sa, sn, sc⟩ := s
 rcases h.2 with ⟨e, h0⟩ | ⟨g, cap, cur, e, _⟩
 ·simp only [Own.slv, Value.slice.injEq] at e
  obtain ⟨_, e2, _⟩ := e
  show sn = n
  omega
 ·simp only [Own.slv, Value.slice.injEq] at e
  exact e.2.1

theorem infoGl : (Tryz.prog.info? 47).map (fun i => (i.zero, i.size, i.bytes)) = some (some (.agg #[.string ByteArray.empty, .slice none 0 0]), 2, 40) := by kernel_rfl

theorem underGl : Tryz.prog.underlying 23 = some (.slice 47) := by kernel_rfl

theorem infoTb : (Tryz.prog.info? 49).map (fun i => (i.zero, i.size, i.bytes)) = some (some (.agg #[.string ByteArray.empty, .slice none 0 0]), 2, 40) := by kernel_rfl

theorem underTb : Tryz.prog.underlying 24 = some (.slice 49) := by kernel_rfl

theorem ints_new (w : World) (x : Int) (ty : TypeId) : Ints (w.alloc (.cells #[.int .i64 x] ty)) ⟨some ⟨w.heap.size, 0, none⟩, 1, 1⟩ (fun _ => x) := by
 refine ⟨Nat.le_refl _, by show 1 ≤ _; omega, fun h => by simp at h, fun _ => ⟨w.heap.size, 0, rfl, fun i hi => ?_⟩⟩
 obtain rfl : i = 0 := by simp at hi; omega
 simp

theorem eqI_refl (v : IV) (f g : Nat → Int) : EqI v v f g f g := ⟨rfl, rfl, rfl, rfl, rfl, ⟨rfl, fun _ _ => rfl⟩, rfl, fun _ _ => rfl⟩

theorem eqF_refl (F : FV) : EqF F F := ⟨rfl, rfl, rfl, ⟨rfl, fun _ _ => rfl⟩, rfl, fun j _ => ⟨rfl, fun k _ => eqI_refl _ _ _⟩⟩

end Go.Proofs.YtolipafcoolpgaaGreat.Wf

/-
  One thing turned in a copy of a module: what lies in memory then.
-/
namespace Go.Proofs.YtolipafcoolpgaaGreat.Trn
open Go.RowKit View Rd Num Opn Copy Srt Own Go.Proofs.YtolipafcoolpgaaGreat.Mod CpM Chk

set_option linter.unusedVariables false

def updI (I : Nat → Nat → IV) (j k : Nat) (v : IV) : Nat → Nat → IV := fun j' k' => if j' = j ∧ k' = k then v else I j' k'
def updA (A : Nat → Nat → Nat → Int) (j k : Nat) (a : Nat → Int) : Nat → Nat → Nat → Int := fun j' k' => if j' = j ∧ k' = k then a else A j' k'

theorem updI_same (I : Nat → Nat → IV) (j k : Nat) (v : IV) : updI I j k v j k = v := by simp [updI]
theorem updI_other (I : Nat → Nat → IV) {j k j' k' : Nat} (v : IV) (h : ¬ (j' = j ∧ k' = k)) : updI I j k v j' k' = I j' k' := by simp only [updI, if_neg h]
theorem updA_same (A : Nat → Nat → Nat → Int) (j k : Nat) (a : Nat → Int) : updA A j k a j k = a := by simp [updA]
theorem updA_other (A : Nat → Nat → Nat → Int) {j k j' k' : Nat} (a : Nat → Int) (h : ¬ (j' = j ∧ k' = k)) : updA A j k a j' k' = A j' k' := by simp only [updA, if_neg h]

abbrev setI (F : FV) (j k : Nat) (v : IV) (a : Nat → Int) : FV := { F with I := updI F.I j k v, A := updA F.A j k a }

theorem in_setI {base : Nat} {w : World} {F : FV} {at_ : Own.Id → Nat} (h : Own base w F at_) {j k c : Nat} (hj : j < F.blk.n) (hk : k < (F.B j).n) (hc : c < 7) {val : Value} {v : IV} {a : Nat → Int}
  (hv : InsAt (w.setCell ⟨at_ (.row j), k * 7 + c, none⟩ val) (at_ (.row j)) (k * 7) v) (hin : v.into = (F.I j k).into) (ha : Ints (w.setCell ⟨at_ (.row j), k * 7 + c, none⟩ val) v.args a) :
  In (w.setCell ⟨at_ (.row j), k * 7 + c, none⟩ val) (setI F j k v a) := by
 have h0 : 0 < (sl F (.row j)).n := by show 0 < (F.B j).n; omega
 have kp : Kept (fun b => b ≠ at_ (.row j)) w (w.setCell ⟨at_ (.row j), k * 7 + c, none⟩ val) := (Kept.refl _ _).setCell (fun h => h rfl) _
 have off : ∀ x, has F x → 0 < (sl F x).n → x ≠ .row j → at_ x ≠ at_ (.row j) := fun x hx hx0 hne e => hne (h.sep x (.row j) hx hj hx0 h0 e)
 refine ⟨?_, ?_, fun j1 h1 => ?_, fun j1 h1 k1 h2 => ?_, fun j1 h1 k1 h2 => ?_⟩
 ·exact h.inn.par.kept kp fun b o ha h0' => h.par (.row j) hj h0 b o ha h0'
 ·exact Sls_kept h.inn.blk kp fun b o ha h0' => h.blk (.row j) hj h0 b o ha h0'
 ·by_cases e : j1 = j
  ·subst e
   refine ⟨(h.inn.ins j1 h1).1, (h.inn.ins j1 h1).2.1, (h.inn.ins j1 h1).2.2.1, fun h0' => ⟨at_ (.row j1), 0, h.adr (.row j1) h1 h0', fun i hi => ?_⟩⟩
   rw [Nat.zero_add]
   show InsAt _ _ _ (updI F.I j1 k v j1 i)
   by_cases e2 : i = k
   ·subst e2
    rw [updI_same]
    exact hv
   ·rw [updI_other _ _ (by simp [e2])]
    exact InsAt.off (h.insAt h1 hi).1 (by omega) _
  ·have : (fun k' => updI F.I j k v j1 k') = F.I j1 := by funext k'; exact updI_other _ _ (by simp [e])
   show Inss _ (F.B j1) (fun k' => updI F.I j k v j1 k')
   rw [this]
   refine Inss_kept (h.inn.ins j1 h1) kp fun b o ha h0' => ?_
   rw [adr_inj (h.adr (.row j1) h1 h0') ha]
   exact off (.row j1) h1 h0' (by simp [e])
 ·show Ints _ (updI F.I j k v j1 k1).args (updA F.A j k a j1 k1)
  by_cases e : j1 = j ∧ k1 = k
  ·obtain ⟨rfl, rfl⟩ := e
   rw [updI_same, updA_same]
   exact ha
  ·rw [updI_other _ _ e, updA_other _ _ e]
   refine (h.inn.args j1 h1 k1 h2).kept kp fun b o ha h0' => ?_
   rw [adr_inj (h.adr (.arg j1 k1) ⟨h1, h2⟩ h0') ha]
   exact off (.arg j1 k1) ⟨h1, h2⟩ h0' (by simp)
 ·show Ints _ (updI F.I j k v j1 k1).into (F.J j1 k1)
  have e' : (updI F.I j k v j1 k1).into = (F.I j1 k1).into := by
   by_cases e : j1 = j ∧ k1 = k
   ·obtain ⟨rfl, rfl⟩ := e; rw [updI_same]; exact hin
   ·rw [updI_other _ _ e]
  rw [e']
  refine (h.inn.into j1 h1 k1 h2).kept kp fun b o ha h0' => ?_
  rw [adr_inj (h.adr (.int j1 k1) ⟨h1, h2⟩ h0') ha]
  exact off (.int j1 k1) ⟨h1, h2⟩ h0' (by simp)

theorem args_stay {base : Nat} {w : World} {F : FV} {at_ : Own.Id → Nat} (h : Own base w F at_) {j k : Nat} (hj : j < F.blk.n) (hk : k < (F.B j).n) (o : Nat) (val : Value) : Ints (w.setCell ⟨at_ (.row j), o, none⟩ val) (F.I j k).args (F.A j k) := by
 have h0 : 0 < (sl F (.row j)).n := by show 0 < (F.B j).n; omega
 have kp : Kept (fun b => b ≠ at_ (.row j)) w (w.setCell ⟨at_ (.row j), o, none⟩ val) := (Kept.refl _ _).setCell (fun h => h rfl) _
 refine (h.inn.args j hj k hk).kept kp fun b o ha h0' => ?_
 rw [adr_inj (h.adr (.arg j k) ⟨hj, hk⟩ h0') ha]
 exact fun e => by have := h.sep (.arg j k) (.row j) ⟨hj, hk⟩ hj h0' h0 e; cases this

theorem Sep.on {X : Nat} {w w' : World} {N : MV} (h : Sep X w N) (hb : Below w.heap.size w w') : Sep X w' N := by
 refine ⟨Nat.le_trans h.le hb.size, fun w2 hz hk => h.low w2 (Nat.le_trans hb.size hz) (fun b hbx => by rw [hk b hbx, hb.block b (Nat.lt_of_lt_of_le hbx h.le)]), fun i hi => ?_, h.dis, fun h0 => ?_⟩
 ·obtain ⟨at_, h1⟩ := h.own i hi
  exact ⟨at_, h1.on hb⟩
 ·obtain ⟨g, a1, a2, a3, a4, a5⟩ := h.fns h0
  exact ⟨g, a1, a2, Nat.lt_of_lt_of_le a3 hb.size, fun i => by rw [hb.frozen (by show g < _; exact a3)]; exact a4 i, a5⟩

abbrev setF (N : MV) (k : Nat) (F : FV) : MV := { N with F := fun i => if i = k then F else N.F i }

theorem setF_same (N : MV) (k : Nat) (F : FV) : (setF N k F).F k = F := by simp
theorem setF_other (N : MV) {k i : Nat} (F : FV) (h : i ≠ k) : (setF N k F).F i = N.F i := by simp [h]

theorem inM_set {X : Nat} {w : World} {N : MV} (sp : Sep X w N) (hN : InM w N) {k : Nat} (hk : k < N.fns.n) {B o : Nat} {val : Value} (hB : FpF (N.F k) B) {F : FV} (hF : In (w.setCell ⟨B, o, none⟩ val) F)
  (e1 : F.name = (N.F k).name) (e2 : F.out = (N.F k).out) (e3 : F.par = (N.F k).par) (e4 : F.res = (N.F k).res) (e5 : F.blk = (N.F k).blk) : InM (w.setCell ⟨B, o, none⟩ val) (setF N k F) := by
 obtain ⟨at_, own⟩ := sp.own k hk
 have hBX := (fpF_in own B hB).1
 obtain ⟨⟨l1, l2⟩, ⟨l3, l4⟩, l5, l6⟩ := sp.low (w.setCell ⟨B, o, none⟩ val) (by simp) (fun b hb => Below.heap_setCell _ _ _ _ (by show b ≠ B; omega))
 refine ⟨l1, l2, l3, l4, l5, l6, ?_, fun i hi => ?_⟩
 ·obtain ⟨g, a1, a2, a3, a4, a5⟩ := sp.fns (by omega)
  have hne : g ≠ B := fun e => a5 k hk (e ▸ hB)
  refine ⟨hN.fns.1, hN.fns.2.1, hN.fns.2.2.1, fun h0 => ?_⟩
  obtain ⟨b, off, ha, hc⟩ := hN.fns.2.2.2 h0
  have e := a1.symm.trans ha
  simp at e
  obtain ⟨rfl, rfl⟩ := e
  refine ⟨g, 0, ha, fun i hi => ?_⟩
  have hci := hc i hi
  have co : ∀ {r : Nat} {u : Value}, w.cell? ⟨g, r, none⟩ = some u → (w.setCell ⟨B, o, none⟩ val).cell? ⟨g, r, none⟩ = some u := fun h => cell_other (fun e => hne (congrArg Addr.block e).symm) h
  by_cases ei : i = k
  ·subst ei
   rw [setF_same]
   exact ⟨by rw [e1]; exact co hci.c0, by rw [e2]; exact co hci.c1, by rw [e3]; exact co hci.c2, by rw [e4]; exact co hci.c3, by rw [e5]; exact co hci.c4⟩
  ·rw [setF_other N F ei]
   exact ⟨co hci.c0, co hci.c1, co hci.c2, co hci.c3, co hci.c4⟩
 ·by_cases ei : i = k
  ·subst ei
   rw [setF_same]
   exact hF
  ·rw [setF_other N F ei]
   obtain ⟨at2, own2⟩ := sp.own i hi
   refine (own_fp own2 (by simp) (fun b hb _ => Below.heap_setCell _ _ _ _ ?_)).inn
   show b ≠ B
   rintro rfl
   exact sp.dis i k hi hk ei _ hb hB

theorem inM_row {X : Nat} {w : World} {N : MV} (sp : Sep X w N) (hN : InM w N) {k : Nat} (hk : k < N.fns.n) {g c : Nat} (hg : N.fns.a = some ⟨g, 0, none⟩) (hc : c < 5) {val : Value} {F : FV}
  (hF : FAt (w.setCell ⟨g, k * 5 + c, none⟩ val) g (k * 5) F) (e3 : F.par = (N.F k).par) (e5 : F.blk = (N.F k).blk) (e6 : F.P = (N.F k).P) (e7 : F.B = (N.F k).B) (e8 : F.I = (N.F k).I) (e9 : F.A = (N.F k).A) (e10 : F.J = (N.F k).J) : InM (w.setCell ⟨g, k * 5 + c, none⟩ val) (setF N k F) := by
 obtain ⟨g', a1, a2, a3, a4, a5⟩ := sp.fns (by omega)
 obtain rfl : g' = g := by have := a1.symm.trans hg; simpa using this
 obtain ⟨⟨l1, l2⟩, ⟨l3, l4⟩, l5, l6⟩ := sp.low (w.setCell ⟨g', k * 5 + c, none⟩ val) (by simp) (fun b hb => Below.heap_setCell _ _ _ _ (by show b ≠ g'; omega))
 have all : ∀ i, i < N.fns.n → In (w.setCell ⟨g', k * 5 + c, none⟩ val) (N.F i) := fun i hi => by
  obtain ⟨at2, own2⟩ := sp.own i hi
  refine (own_fp own2 (by simp) (fun b hb _ => Below.heap_setCell _ _ _ _ ?_)).inn
  show b ≠ g'
  rintro rfl
  exact a5 i hi hb
 refine ⟨l1, l2, l3, l4, l5, l6, ?_, fun i hi => ?_⟩
 ·refine ⟨hN.fns.1, hN.fns.2.1, hN.fns.2.2.1, fun h0 => ?_⟩
  obtain ⟨b, off, ha, hcc⟩ := hN.fns.2.2.2 h0
  have e := a1.symm.trans ha
  simp at e
  obtain ⟨rfl, rfl⟩ := e
  refine ⟨g', 0, ha, fun i hi => ?_⟩
  have hci := hcc i hi
  rw [Nat.zero_add] at hci ⊢
  by_cases ei : i = k
  ·subst ei
   rw [setF_same]
   exact hF
  ·rw [setF_other N F ei]
   have co : ∀ {r : Nat} {u : Value}, r < 5 → w.cell? ⟨g', i * 5 + r, none⟩ = some u → (w.setCell ⟨g', k * 5 + c, none⟩ val).cell? ⟨g', i * 5 + r, none⟩ = some u := fun hr h => cell_other (ne_off (by omega)) h
   exact ⟨co (r := 0) (by omega) hci.c0, co (by omega) hci.c1, co (by omega) hci.c2, co (by omega) hci.c3, co (by omega) hci.c4⟩
 ·by_cases ei : i = k
  ·subst ei
   rw [setF_same]
   have h := all i hi
   exact ⟨by rw [e3, e6]; exact h.par, by rw [e5, e7]; exact h.blk, fun j hj => by rw [e7, e8]; rw [e5] at hj; exact h.ins j hj, fun j hj k hk => by rw [e8, e9]; rw [e5] at hj; rw [e7] at hk; exact h.args j hj k hk, fun j hj k hk => by rw [e8, e10]; rw [e5] at hj; rw [e7] at hk; exact h.into j hj k hk⟩
  ·rw [setF_other N F ei]
   exact all i hi

theorem InsAt.set0 {w : World} {b o : Nat} {v : IV} (h : InsAt w b o v) (n : Int) : InsAt (w.setCell ⟨b, o + 0, none⟩ (.int .i64 n)) b o { v with op := n } :=
 ⟨cell_same h.c0, cell_other (ne_off (by omega)) h.c1, cell_other (ne_off (by omega)) h.c2, cell_other (ne_off (by omega)) h.c3, cell_other (ne_off (by omega)) h.c4, cell_other (ne_off (by omega)) h.c5, cell_other (ne_off (by omega)) h.c6⟩
theorem InsAt.set1 {w : World} {b o : Nat} {v : IV} (h : InsAt w b o v) (n : Int) : InsAt (w.setCell ⟨b, o + 1, none⟩ (.int .i64 n)) b o { v with ty := n } :=
 ⟨cell_other (ne_off (by omega)) h.c0, cell_same h.c1, cell_other (ne_off (by omega)) h.c2, cell_other (ne_off (by omega)) h.c3, cell_other (ne_off (by omega)) h.c4, cell_other (ne_off (by omega)) h.c5, cell_other (ne_off (by omega)) h.c6⟩
theorem InsAt.set3 {w : World} {b o : Nat} {v : IV} (h : InsAt w b o v) (n : Int) : InsAt (w.setCell ⟨b, o + 3, none⟩ (.int .i64 n)) b o { v with sym := n } :=
 ⟨cell_other (ne_off (by omega)) h.c0, cell_other (ne_off (by omega)) h.c1, cell_other (ne_off (by omega)) h.c2, cell_same h.c3, cell_other (ne_off (by omega)) h.c4, cell_other (ne_off (by omega)) h.c5, cell_other (ne_off (by omega)) h.c6⟩
theorem InsAt.set4 {w : World} {b o : Nat} {v : IV} (h : InsAt w b o v) (n : Int) : InsAt (w.setCell ⟨b, o + 4, none⟩ (.int .i64 n)) b o { v with num := n } :=
 ⟨cell_other (ne_off (by omega)) h.c0, cell_other (ne_off (by omega)) h.c1, cell_other (ne_off (by omega)) h.c2, cell_other (ne_off (by omega)) h.c3, cell_same h.c4, cell_other (ne_off (by omega)) h.c5, cell_other (ne_off (by omega)) h.c6⟩

theorem small_set {N : MV} (hs : SmallM N) {k : Nat} (hk : k < N.fns.n) {F : FV} (hl : Light F) (hz : fsize F = fsize (N.F k)) : SmallM (setF N k F) := by
 refine ⟨hs.ext, hs.glo, hs.tab, hs.fns, hs.extI, hs.gloI, hs.tabI, fun i hi => ?_, ?_⟩
 ·by_cases e : i = k
  ·subst e; rw [setF_same]; exact hl
  ·rw [setF_other N F e]; exact hs.light i hi
 ·have e : cnt (fun i => fsize ((setF N k F).F i)) N.fns.n = cnt (fun i => fsize (N.F i)) N.fns.n := cnt_same fun i hi => by
   by_cases e : i = k
   ·subst e; rw [setF_same]; exact hz
   ·rw [setF_other N F e]
  show cnt (fun i => fsize ((setF N k F).F i)) N.fns.n ≤ 400
  rw [e]; exact hs.all

theorem light_setI {F : FV} (hl : Light F) {j k : Nat} {v : IV} {a : Nat → Int} (h1 : v.args.n ≤ 20) (h2 : v.into = (F.I j k).into) (hj : j < F.blk.n) (hk : k < (F.B j).n) : Light (setI F j k v a) := by
 refine ⟨hl.all, hl.name, hl.par, hl.blk, hl.ins, fun j' hj' k' hk' => ?_, fun j' hj' k' hk' => ?_⟩
 ·show (updI F.I j k v j' k').args.n ≤ 20
  by_cases e : j' = j ∧ k' = k
  ·obtain ⟨rfl, rfl⟩ := e; rw [updI_same]; exact h1
  ·rw [updI_other _ _ e]; exact hl.args j' hj' k' hk'
 ·show (updI F.I j k v j' k').into.n ≤ 20
  by_cases e : j' = j ∧ k' = k
  ·obtain ⟨rfl, rfl⟩ := e; rw [updI_same, h2]; exact hl.into j' hj' k' hk'
  ·rw [updI_other _ _ e]; exact hl.into j' hj' k' hk'

theorem FAt.set1 {w : World} {b o : Nat} {F : FV} (h : FAt w b o F) (v : Bool) : FAt (w.setCell ⟨b, o + 1, none⟩ (.bool v)) b o { F with out := v } :=
 ⟨cell_other (ne_off (by omega)) h.c0, cell_same h.c1, cell_other (ne_off (by omega)) h.c2, cell_other (ne_off (by omega)) h.c3, cell_other (ne_off (by omega)) h.c4⟩
theorem FAt.set0 {w : World} {b o : Nat} {F : FV} (h : FAt w b o F) (v : ByteArray) : FAt (w.setCell ⟨b, o + 0, none⟩ (.string v)) b o { F with name := v } :=
 ⟨cell_same h.c0, cell_other (ne_off (by omega)) h.c1, cell_other (ne_off (by omega)) h.c2, cell_other (ne_off (by omega)) h.c3, cell_other (ne_off (by omega)) h.c4⟩

end Go.Proofs.YtolipafcoolpgaaGreat.Trn
