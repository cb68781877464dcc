/-
  A module's copy, in new memory: ir.Copy.
-/
import Derived.Test.YthaedlnefikigaaCopyM3
import Derived.Test.YthaedlnefikigaaSmall
import Derived.Deep.RegionHeld3
namespace Go.Proofs.Ythaedlnefikigaa.CpM
open Go.RowKit View Rd Copy Srt Go.Proofs.Ythaedlnefikigaa.Own Go.Proofs.Ythaedlnefikigaa.Mod

set_option linter.unusedVariables false

abbrev csE (V : Nat → EV) (i : Nat) (t : Sl) : List Value := [.string (V i).name, .slice t.a t.n t.c, .int .i64 (V i).res]
abbrev csG (V : Nat → GV) (i : Nat) (t : Sl) : List Value := [.string (V i).name, .slice t.a t.n t.c]
abbrev csF (i : Nat) (t : FV) : List Value := [.string t.name, .bool t.out, .slice t.par.a t.par.n t.par.c, .int .i64 t.res, .slice t.blk.a t.blk.n t.blk.c]

/-- A row that was copied, as a slice. -/
def Part {α : Type} (T z n base : Nat) (cs : Nat → α → List Value) (El : Nat → World → Nat → α → Prop) (w : World) (s : Sl) : Prop :=
  ∃ G, s = ⟨some ⟨G, 0, none⟩, n, n⟩ ∧ base ≤ G ∧ ∃ t, Each G T z n n w cs (El (G + 1)) t

theorem part_of {α : Type} {T z n base : Nat} {cs : Nat → α → List Value} {El : Nat → World → Nat → α → Prop} {w w' : World} {e : Ending} (h : NewEach T z n cs El w e w') (hb : base ≤ w.heap.size) :
    ∃ s : Sl, e = .returned (.slice s.a s.n s.c) ∧ Part T z n base cs El w' s ∧ Below w.heap.size w w' := by
  obtain ⟨rfl, ht, hbl⟩ := h
  exact ⟨⟨some ⟨w.heap.size, 0, none⟩, n, n⟩, rfl, ⟨_, rfl, hb, ht⟩, hbl⟩

theorem Part.on {α : Type} {T z n base : Nat} {cs : Nat → α → List Value} {El : Nat → World → Nat → α → Prop} {w w' : World} {s : Sl} (hel : ∀ b i a, El b w i a → El b w' i a) (hb : Below w.heap.size w w') (h : Part T z n base cs El w s) : Part T z n base cs El w' s := by
  obtain ⟨G, h1, h2, t, h3⟩ := h
  exact ⟨G, h1, h2, t, owns_on hb h3.own, fun i hi => hel _ i _ (h3.el i hi)⟩

theorem Part.kept {α : Type} {T z n base : Nat} {cs : Nat → α → List Value} {El : Nat → World → Nat → α → Prop} {w w' : World} {s : Sl} (hel : ∀ b, base ≤ b → ∀ i a, El b w i a → El b w' i a) (hb : Kept (fun k => base ≤ k) w w') (h : Part T z n base cs El w s) : Part T z n base cs El w' s := by
  obtain ⟨G, h1, h2, t, h3⟩ := h
  exact ⟨G, h1, h2, t, owns_kept h3.own hb h2, fun i hi => hel _ (by omega) i _ (h3.el i hi)⟩

theorem ElS.kept {N : Nat → Nat} {C : Nat → Nat → Int} {base b : Nat} {w w' : World} {i : Nat} {t : Sl} (hb : Kept (fun k => base ≤ k) w w') (h0 : base ≤ b) (h : ElS N C b w i t) : ElS N C b w' i t :=
  ⟨h.1, h.2.1.kept' h.2.2 hb (fun k h1 _ => by omega), (h.2.2.kept hb (fun k h1 _ => by omega)).wide (Nat.le_refl _) hb.size⟩

theorem ElF.kept {F : Nat → FV} {base b : Nat} {w w' : World} {i : Nat} {T : FV} (hb : Kept (fun k => base ≤ k) w w') (h0 : base ≤ b) (h : ElF F b w i T) : ElF F b w' i T := by
  obtain ⟨a, h1, h2, h3⟩ := h
  exact ⟨a, Own.apart h1 ⟨hb.size, fun k hk => hb.block k (by omega)⟩, h2, h3⟩

theorem weak {B B' : Nat} {w w' : World} (h : B' ≤ B) (hb : Below B w w') : Below B' w w' := ⟨hb.os, hb.tape, hb.output, hb.size, fun k hk => hb.block k (by omega)⟩

theorem four {B N : Nat} {w w' : World} {a b c d : Value} (h : B ≤ N) (hb : Below B w w') : Below B w ((((w'.setCell ⟨N, 0, none⟩ a).setCell ⟨N, 1, none⟩ b).setCell ⟨N, 2, none⟩ c).setCell ⟨N, 3, none⟩ d) :=
  (((hb.setCell (p := ⟨N, 0, none⟩) h a).setCell (p := ⟨N, 1, none⟩) h b).setCell (p := ⟨N, 2, none⟩) h c).setCell (p := ⟨N, 3, none⟩) h d

/-- What ir.Copy gives. -/
def CopyOfM (M : MV) (w : World) (e : Ending) (w' : World) : Prop :=
  ∃ N : MV, e = .returned N.val ∧ Part 55 3 M.ext.n (w.heap.size + 2) (csE M.E) (ElS (fun i => (M.E i).par.n) M.EP) w' N.ext ∧ Part 58 2 M.glo.n (w.heap.size + 2) (csG M.G) (ElS (fun i => (M.G i).cel.n) M.GC) w' N.glo ∧
    Part 60 2 M.tab.n (w.heap.size + 2) (csG M.T) (ElS (fun i => (M.T i).cel.n) M.TF) w' N.tab ∧ Part 36 5 M.fns.n (w.heap.size + 2) csF (ElF M.F) w' N.fns ∧ Below w.heap.size w w'

theorem copyM_fin {M : MV} {w W w1 w2 : World} {s1 s2 s3 s4 : Sl} (hz : W.heap.size = w.heap.size + 2) (h1 : Part 55 3 M.ext.n W.heap.size (csE M.E) (ElS (fun i => (M.E i).par.n) M.EP) w1 s1) (h2 : Part 58 2 M.glo.n W.heap.size (csG M.G) (ElS (fun i => (M.G i).cel.n) M.GC) w1 s2)
    (h3 : Part 60 2 M.tab.n W.heap.size (csG M.T) (ElS (fun i => (M.T i).cel.n) M.TF) w1 s3) (h4 : Part 36 5 M.fns.n W.heap.size csF (ElF M.F) w1 s4) (k : Kept (fun k => w.heap.size + 2 ≤ k) w1 w2) (hb : Below w.heap.size w w2) :
    CopyOfM M w (.returned (.agg #[.slice s1.a s1.n s1.c, .slice s2.a s2.n s2.c, .slice s3.a s3.n s3.c, .slice s4.a s4.n s4.c])) w2 := by
  rw [hz] at h1 h2 h3 h4
  exact ⟨⟨s1, s2, s3, s4, fun _ => default, fun _ _ => 0, fun _ => default, fun _ _ => 0, fun _ => default, fun _ _ => 0, fun _ => default⟩, rfl, h1.kept (fun b hb i a => ElS.kept k hb) k, h2.kept (fun b hb i a => ElS.kept k hb) k, h3.kept (fun b hb i a => ElS.kept k hb) k, h4.kept (fun b hb i a => ElF.kept k hb) k, hb⟩

set_option maxRecDepth 10000 in
set_option maxHeartbeats 1000000 in
theorem copy_ir (M : MV) (w : World) (hM : InM w M) (hs : SmallM M) :
    Calls Try.prog 14 #[M.val] w fun e w' => CopyOfM M w e w' := by
  have HM := hid hM
  have HS := hid hs
  clear hM hs
  go_enter Try.func14, Try.ntmps14
  go_wp2_with fail
  obtain ⟨W, hW⟩ : ∃ W, (w.alloc (.cells (mcells M) 27)).alloc (.cells #[.slice none 0 0, .slice none 0 0, .slice none 0 0, .slice none 0 0] 27) = W := ⟨_, rfl⟩
  have b0 : Below w.heap.size w W := by rw [← hW]; exact new (new (same w) _) _
  have zW : W.heap.size = w.heap.size + 2 := by rw [← hW]; simp
  have a0 : W.cell? ⟨w.heap.size, 0, none⟩ = some (.slice M.ext.a M.ext.n M.ext.c) := by rw [← hW]; simp
  have a1 : W.cell? ⟨w.heap.size, 1, none⟩ = some (.slice M.glo.a M.glo.n M.glo.c) := by rw [← hW]; simp
  have a2 : W.cell? ⟨w.heap.size, 2, none⟩ = some (.slice M.tab.a M.tab.n M.tab.c) := by rw [← hW]; simp
  have a3 : W.cell? ⟨w.heap.size, 3, none⟩ = some (.slice M.fns.a M.fns.n M.fns.c) := by rw [← hW]; simp
  have d0 : ∀ i, i < 4 → W.cell? ⟨w.heap.size + 1, i, none⟩ = some (.slice none 0 0) := by
    intro i hi
    rw [← hW]
    match i, hi with
    | 0, _ => simp
    | 1, _ => simp
    | 2, _ => simp
    | 3, _ => simp
  have f0 : ∀ i, W.frozen? ⟨w.heap.size + 1, i, none⟩ = false := by intro i; rw [← hW]; simp
  rw [hW]
  clear hW
  have A0 : ∀ wx, Below (w.heap.size + 1) W wx → wx.cell? ⟨w.heap.size, 0, none⟩ = some (.slice M.ext.a M.ext.n M.ext.c) := fun wx h => (World.cell?_of_block (h.block _ (Nat.lt_succ_self _))).trans a0
  have A1 : ∀ wx, Below (w.heap.size + 1) W wx → wx.cell? ⟨w.heap.size, 1, none⟩ = some (.slice M.glo.a M.glo.n M.glo.c) := fun wx h => (World.cell?_of_block (h.block _ (Nat.lt_succ_self _))).trans a1
  have A2 : ∀ wx, Below (w.heap.size + 1) W wx → wx.cell? ⟨w.heap.size, 2, none⟩ = some (.slice M.tab.a M.tab.n M.tab.c) := fun wx h => (World.cell?_of_block (h.block _ (Nat.lt_succ_self _))).trans a2
  have A3 : ∀ wx, Below (w.heap.size + 1) W wx → wx.cell? ⟨w.heap.size, 3, none⟩ = some (.slice M.fns.a M.fns.n M.fns.c) := fun wx h => (World.cell?_of_block (h.block _ (Nat.lt_succ_self _))).trans a3
  have DD : Hid (∀ wx, Below W.heap.size W wx → (wx.cell? ⟨w.heap.size + 1, 0, none⟩ = some (.slice none 0 0) ∧ wx.cell? ⟨w.heap.size + 1, 1, none⟩ = some (.slice none 0 0) ∧ wx.cell? ⟨w.heap.size + 1, 2, none⟩ = some (.slice none 0 0) ∧ wx.cell? ⟨w.heap.size + 1, 3, none⟩ = some (.slice none 0 0)) ∧ ∀ i, wx.frozen? ⟨w.heap.size + 1, i, none⟩ = false) :=
    fun wx h => ⟨⟨cell_on h (d0 0 (by decide)), cell_on h (d0 1 (by decide)), cell_on h (d0 2 (by decide)), cell_on h (d0 3 (by decide))⟩, fun i => by rw [h.frozen (by show w.heap.size + 1 < _; omega)]; exact f0 i⟩
  have IM := hid (HM.out.on b0)
  have B0 := hid b0
  have ZW := hid zW
  have ZL : Hid (w.heap.size + 1 ≤ W.heap.size) := (by omega : w.heap.size + 1 ≤ W.heap.size)
  have st0 : Below W.heap.size W W.drew := Below.drew (same _)
  clear a0 a1 a2 a3 d0 f0 b0 zW
  go_region_held3 (fun wx => Below (w.heap.size + 1) W wx) (first | exact weak ZL.out st0 | exact weak ZL.out st1 | exact weak ZL.out st2 | exact weak ZL.out st3 | exact weak ZL.out st4 | exact four (Nat.le_refl _) (weak ZL.out st4))
    (first
      | (go_at_call 41; refine (copyEachE_any M.ext M.E M.EP _ (IM.out.on (by assumption)).ext (IM.out.on (by assumption)).extP (by have := HS.out.ext; omega) (fun i hi => by have := (HS.out.extI i hi).2; omega)).mono ?_; rintro e wa ne1; obtain ⟨s1, rfl, p1, hbx⟩ := part_of (base := W.heap.size) ne1 (Below.size (B := W.heap.size) (w := W) (by assumption)); clear ne1; have st1 : Below W.heap.size W wa := more (by assumption) hbx)
      | (go_at_call 43; refine (copyEachG_any M.glo M.G M.GC _ (IM.out.on (by assumption)).glo (IM.out.on (by assumption)).gloC (by have := HS.out.glo; omega) (fun i hi => by have := (HS.out.gloI i hi).2; omega)).mono ?_; rintro e wb ne2; obtain ⟨s2, rfl, p2, hbx⟩ := part_of (base := W.heap.size) ne2 (Below.size (B := W.heap.size) (w := W) (by assumption)); clear ne2; have st2 : Below W.heap.size W wb := more (by assumption) hbx; have p1b := Part.on (fun b i a => ElS.on hbx) hbx p1)
      | (go_at_call 45; refine (copyEachT_any M.tab M.T M.TF _ (IM.out.on (by assumption)).tab (IM.out.on (by assumption)).tabF (by have := HS.out.tab; omega) (fun i hi => by have := (HS.out.tabI i hi).2; omega)).mono ?_; rintro e wc ne3; obtain ⟨s3, rfl, p3, hbx⟩ := part_of (base := W.heap.size) ne3 (Below.size (B := W.heap.size) (w := W) (by assumption)); clear ne3; have st3 : Below W.heap.size W wc := more (by assumption) hbx; have p1c := Part.on (fun b i a => ElS.on hbx) hbx p1b; have p2c := Part.on (fun b i a => ElS.on hbx) hbx p2)
      | (go_at_call 47; refine (copyEachF_any M.fns M.F _ (IM.out.on (by assumption)).fns (IM.out.on (by assumption)).fnI (by have := HS.out.fns; omega) HS.out.light).mono ?_; rintro e wd ne4; obtain ⟨s4, rfl, p4, hbx⟩ := part_of (base := W.heap.size) ne4 (Below.size (B := W.heap.size) (w := W) (by assumption)); clear ne4; have st4 : Below W.heap.size W wd := more (by assumption) hbx; obtain ⟨⟨e0, e1, e2, e3⟩, e4⟩ := DD.out wd st4; have p1d := Part.on (fun b i a => ElS.on hbx) hbx p1c; have p2d := Part.on (fun b i a => ElS.on hbx) hbx p2c; have p3d := Part.on (fun b i a => ElS.on hbx) hbx p3))
  have FIN := hid (And.intro p1d (And.intro p2d (And.intro p3d p4)))
  have ST4 := hid st4
  clear p1 p1b p1c p1d p2 p2c p2d p3 p3d p4 st0 st1 st2 st3 st4 hbx
  go_wp2_with fail
  refine bodyPost_ret (v := .agg #[.slice s1.a s1.n s1.c, .slice s2.a s2.n s2.c, .slice s3.a s3.n s3.c, .slice s4.a s4.n s4.c]) (by rw [results_cell rfl]; go_simp) rfl ?_
  obtain ⟨q1, q2, q3, q4⟩ := FIN.out
  have zz := ZW.out
  refine copyM_fin zz q1 q2 q3 q4 ?_ ?_
  · repeat (refine Kept.setCell ?_ (by simp) _)
    exact Kept.refl _ _
  · repeat (refine Below.setCell ?_ (by simp) _)
    exact (weak (by omega) (more B0.out ST4.out))

end Go.Proofs.Ythaedlnefikigaa.CpM
