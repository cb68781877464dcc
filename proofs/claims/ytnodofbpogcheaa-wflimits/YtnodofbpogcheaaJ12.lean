/-
  Wle, Wlb3, Wlf: laid together.
-/
import Derived.Test.YtnodofbpogcheaaJ11
/-
  WfLimits: one parameter more, in a row of its own.
-/
namespace Go.Proofs.Ytnodofbpogcheaa.Wf
open Go.RowKit View Rd Num Copy Go.Proofs.Ytnodofbpogcheaa.Mod Go.Proofs.Ytnodofbpogcheaa.Wl Go.Proofs.Ytnodofbpogcheaa.Chk Go.Proofs.Ytnodofbpogcheaa.Flo

set_option linter.unusedVariables false

theorem BodyAt.same {w w' : World} {V : Nat} (h : BodyAt w V) (e1 : w'.heap[V + 1]? = w.heap[V + 1]?) (e2 : w'.heap[V + 1 + 1]? = w.heap[V + 1 + 1]?) : BodyAt w' V := by
  obtain ⟨⟨a1, a2, a3, a4⟩, b1, b2, b3, b4⟩ := h
  refine ⟨⟨a1, a2, a3, fun h0 => ?_⟩, b1, b2, b3, fun h0 => ?_⟩
  · obtain ⟨b, off, e, hc⟩ := a4 h0
    refine ⟨b, off, e, fun i hi => ?_⟩
    have := hc i hi
    simp only [Option.some.injEq, Addr.mk.injEq] at e
    obtain ⟨rfl, rfl, _⟩ := e
    rw [World.cell?_of_block (w := w) e2]
    exact this
  · obtain ⟨b, off, e, hc⟩ := b4 h0
    refine ⟨b, off, e, fun i hi => ?_⟩
    have := hc i hi
    simp only [Option.some.injEq, Addr.mk.injEq] at e
    obtain ⟨rfl, rfl, _⟩ := e
    exact ⟨by rw [World.cell?_of_block (w := w) e1]; exact this.c0, by rw [World.cell?_of_block (w := w) e1]; exact this.c1, by rw [World.cell?_of_block (w := w) e1]; exact this.c2, by rw [World.cell?_of_block (w := w) e1]; exact this.c3, by rw [World.cell?_of_block (w := w) e1]; exact this.c4, by rw [World.cell?_of_block (w := w) e1]; exact this.c5, by rw [World.cell?_of_block (w := w) e1]; exact this.c6⟩

abbrev ones6 : List Value := [.int .i64 1, .int .i64 1, .int .i64 1, .int .i64 1, .int .i64 1, .int .i64 1]

theorem par_over (hck : ChkC) {w1 W0 wp wq w6 : World} {V g cap : Nat} {t : Nat → Nat} {sv : Sl} (hst : GSt w1 W0 V 33 5 1 3 (csP V) elP fpL wp (slv ⟨some ⟨g, 0, none⟩, 1, cap⟩) t) (hbd : BodyAt W0 V) (hV : V + 2 < W0.heap.size)
    (hq : Below wp.heap.size wp wq) (own6 : w6.ownsRow W0.heap.size 3 1 (slv sv) 6 ones6) (gr6 : wq.grownBy w6 (some (t 0))) :
    Chks (.agg #[.slice none 0 0, .slice none 0 0, .slice none 0 0, .slice (some ⟨g, 0, none⟩) 1 cap]) 2 (w6.setCell ⟨g, 2, none⟩ (slv sv)) ∧ (∀ i, i ≠ g → i < W0.heap.size → (w6.setCell ⟨g, 2, none⟩ (slv sv)).heap[i]? = wp.heap[i]?) ∧ Below w1.heap.size w1 (w6.setCell ⟨g, 2, none⟩ (slv sv)) ∧ W0.heap.size ≤ g ∧ w6.frozen? ⟨g, 2, none⟩ = false ∧ w6.cell? ⟨g, 2, none⟩ = some (.slice (some ⟨t 0, 0, none⟩) 5 5) := by
  have zq := hq.size
  have zs := hst.size
  have gb := hst.g.own.lt g rfl
  have ta := (hst.g.fp 0 (by decide) (t 0) rfl)
  have ne : some g ≠ some (t 0) := fun e => by have := Option.some.inj e; exact ta.2.2 (by rw [← this]; rfl)
  have kb : ∀ b, b < wp.heap.size → some b ≠ some (t 0) → w6.heap[b]? = wp.heap[b]? := fun b hb hne => by rw [gr6.block b (by omega) hne, hq.block b hb]
  have eg := kb g gb.2 ne
  have cg : ∀ r, r < 5 → w6.cell? ⟨g, r, none⟩ = (csP V 0 (t 0))[r]? := fun r hr => by
    rw [World.cell?_of_block (w := wp) eg]
    have := hst.g.own.cellAt (g := g) r (by omega)
    rw [this]
    simp [fl]
  have fg : w6.frozen? ⟨g, 2, none⟩ = false := by
    rw [World.frozen?_of_block (w := wp) eg]
    rcases hst.g.own.2 with ⟨e, _⟩ | ⟨g', cap', cur, e, h1, h2, _⟩
    · cases e
    · simp only [slv, Value.slice.injEq, Option.some.injEq, Addr.mk.injEq] at e
      obtain ⟨⟨rfl, _⟩, _⟩ := e
      unfold World.frozen?
      simp [h2]
  have sz6 := gr6.size
  have hc : 1 ≤ cap := by
    rcases hst.g.own.2 with ⟨e, _⟩ | ⟨g', cap', cur, e, h1, h2, h3, _⟩
    · cases e
    · simp only [slv, Value.slice.injEq] at e
      omega
  have keep : ∀ i, i ≠ g → i < W0.heap.size → (w6.setCell ⟨g, 2, none⟩ (slv sv)).heap[i]? = wp.heap[i]? := fun i hi hlt => by
    rw [Below.heap_setCell _ _ _ _ hi]
    exact kb i (by omega) (fun e => by have := Option.some.inj e; omega)
  have hi6 : sv.n = 6 ∧ Ints w6 sv (fun _ => 1) ∧ sv.a ≠ some ⟨g, 0, none⟩ ∧ ∀ b off, sv.a = some ⟨b, off, none⟩ → b ≠ g := by
    obtain ⟨sa, sn, sc⟩ := sv
    rcases own6.2 with ⟨e, h0⟩ | ⟨g', cap', cur, e, h1, h2, _⟩
    · omega
    · simp only [slv, Value.slice.injEq] at e
      obtain ⟨rfl, rfl, rfl⟩ := e
      have hne : g' ≠ g := fun e => by
        subst e
        -- the new row lies in the old one's block, or in a new one: neither is g
        rw [eg] at h2
        rcases hst.g.own.2 with ⟨e, _⟩ | ⟨g2, cap2, cur2, e, h1', h2', _⟩
        · cases e
        · simp only [slv, Value.slice.injEq, Option.some.injEq, Addr.mk.injEq] at e
          obtain ⟨⟨rfl, _⟩, _⟩ := e
          rw [h2] at h2'
          simp at h2'
      refine ⟨rfl, own_ints (X := W0.heap.size) own6 (by decide), fun e => ?_, fun b off e => ?_⟩
      · simp only [Option.some.injEq, Addr.mk.injEq] at e; exact hne e.1
      · simp only [Option.some.injEq, Addr.mk.injEq] at e; rw [← e.1]; exact hne
  obtain ⟨n6, i6, _, a6⟩ := hi6
  have i6' : Ints (w6.setCell ⟨g, 2, none⟩ (slv sv)) sv (fun _ => 1) := ⟨i6.1, i6.2.1, i6.2.2.1, fun h0 => by
    obtain ⟨b, off, e, hcc⟩ := i6.2.2.2 h0
    refine ⟨b, off, e, fun i hi => ?_⟩
    rw [World.cell?_of_block (w := w6) (Below.heap_setCell _ _ _ _ (a6 b off e))]
    exact hcc i hi⟩
  have hrow : Row 5 FAt (w6.setCell ⟨g, 2, none⟩ (slv sv)) ⟨some ⟨g, 0, none⟩, 1, cap⟩ (fun _ => blkF ⟨#[102]⟩ sv ⟨some ⟨V + 1 + 1, 0, none⟩, 1, 1⟩ (fun _ => ⟨some ⟨V + 1, 0, none⟩, 1, 1⟩) (fun _ _ => retI) (fun _ _ _ => 0)) := by
    refine ⟨hc, by show 1 ≤ _; omega, fun e => by simp at e, fun _ => ⟨g, 0, rfl, fun i hi => ?_⟩⟩
    obtain rfl : i = 0 := by simp at hi; omega
    refine ⟨?_, ?_, ?_, ?_, ?_⟩
    · rw [World.cell?_setCell_other (h := ne_off (by decide))]; exact cg 0 (by decide)
    · rw [World.cell?_setCell_other (h := ne_off (by decide))]; exact cg 1 (by decide)
    · exact cell_same (cg 2 (by decide))
    · rw [World.cell?_setCell_other (h := ne_off (by decide))]; exact cg 3 (by decide)
    · rw [World.cell?_setCell_other (h := ne_off (by decide))]; exact cg 4 (by decide)
  have hb : BodyAt (w6.setCell ⟨g, 2, none⟩ (slv sv)) V := hbd.same (by rw [keep _ (by omega) (by omega)]; exact hst.kp _ (by omega) (by omega)) (by rw [keep _ (by omega) (by omega)]; exact hst.kp _ (by omega) (by omega))
  refine ⟨?_, keep, ?_, gb.1, fg, cg 2 (by decide)⟩
  · have h := res_par hck (n := 6) hrow rfl hb i6' n6 (by decide)
    rw [if_neg (by decide)] at h
    exact h
  · have lw := hst.low.size
    have hge := hst.ge
    refine Below.setCell ?_ (by show _ ≤ g; omega) _
    exact (more hst.low hq).grown gr6 (by omega) (fun b hb => by have := Option.some.inj hb; have := ta.1; omega)

theorem own_one {w : World} {X T z : Nat} {sv : Sl} {xs : List Value} (h : w.ownsRow X T z (slv sv) 1 xs) (h1 : 0 < 1) : ∃ g cap, sv = ⟨some ⟨g, 0, none⟩, 1, cap⟩ := by
  obtain ⟨sa, sn, sc⟩ := sv
  rcases h.2 with ⟨e, h0⟩ | ⟨g, cap, cur, e, _⟩
  · omega
  · simp only [slv, Value.slice.injEq] at e
    obtain ⟨rfl, rfl, rfl⟩ := e
    exact ⟨g, sc, rfl⟩

theorem app_one {w wq : World} {X a : Nat} (hb : Below w.heap.size w wq) (h : w.ownsRow X 3 1 (.slice (some ⟨a, 0, none⟩) 5 5) 5 [.int .i64 1, .int .i64 1, .int .i64 1, .int .i64 1, .int .i64 1]) (hX : X ≤ w.heap.size) (hc : wq.cell? ⟨w.heap.size, 0, none⟩ = some (.int .i64 1)) (hz : wq.heap.size = w.heap.size + 1) :
    ∃ v6 w6, (Builtin.append_ #[28, 28] 28 #[.slice (some ⟨a, 0, none⟩) 5 5, .slice (some ⟨w.heap.size, 0, none⟩) 1 1]).run Try.prog wq = .ok v6 w6 ∧ w6.ownsRow X 3 1 v6 6 ones6 ∧ wq.grownBy w6 (some a) := by
  obtain ⟨i0, hi, hz0, hz1, hz2⟩ := info_parts (show (Try.prog.info? 3).map (fun i => (i.zero, i.size, i.bytes)) = some (some (.int .i64 0), 1, 8) by kernel_rfl)
  obtain ⟨v', w', q1, q2, q3, _, _⟩ := run_append_own_at (P := Try.prog) wq X 28 28 3 i0 (.int .i64 0) 1 8 underlying28 hi hz0 hz1 hz2 rfl (by decide) (.slice (some ⟨a, 0, none⟩) 5 5) 5 _ (owns_on hb h) ⟨w.heap.size, 0, none⟩ 1 1 [.int .i64 1] rfl (fun j u hu => by
    obtain rfl : j = 0 := by have := (List.getElem?_eq_some_iff.1 hu).1; simpa using this
    simp only [List.getElem?_cons_zero, Option.some.injEq] at hu
    subst hu
    simpa [Addr.add_lit] using hc) (by intro u hu; simp at hu; subst hu; rfl) (by decide) (by decide) (by omega)
  exact ⟨v', w', q1, q2, q3⟩

end Go.Proofs.Ytnodofbpogcheaa.Wf

/-
  WfLimits, walked: as many parameters as may be, one more.
-/
namespace Go.Proofs.Ytnodofbpogcheaa.Wf
open Go.RowKit View Rd Num Copy Go.Proofs.Ytnodofbpogcheaa.Mod Go.Proofs.Ytnodofbpogcheaa.Wl Go.Proofs.Ytnodofbpogcheaa.Chk Go.Proofs.Ytnodofbpogcheaa.Flo

set_option linter.unusedVariables false

set_option maxRecDepth 10000 in
set_option maxHeartbeats 8000000 in
theorem lim3_false (which : Int) (w : World) (hck : ChkC) (hfi : ∀ w, Calls Try.prog 13 #[] w fun e w' => e = .returned (.bool true) ∧ Below w.heap.size w w') (a0 : Nat) (h1 : bits .and .i64 which 255 = (a0 : Int)) (h2 : (a0 : Int).tmod 6 = 3) :
    Calls Try.prog 4 #[.int .i64 which, .bool false] w fun e w' => e = .returned (.bool true) ∧ Below w.heap.size w w' := by
  have HF := hid hfi
  have HK := hid hck
  clear hfi hck
  go_enter Try.func4, Try.ntmps4
  go_upto_region 28 with (go_at_call 13; refine (HF.out _).mono ?_; rintro e w1 ⟨rfl, hb⟩; have st1 := hid hb; clear hb)
  clear h1 h2
  obtain ⟨V, hV⟩ : ∃ V, w1.heap.size = V := ⟨_, rfl⟩
  rw [hV]
  obtain ⟨W0, hW0⟩ : ∃ W0, ((w1.alloc (.cells #[.slice none 0 0, .slice none 0 0, .slice none 0 0, .slice none 0 0] 27)).alloc (.cells #[.int .i64 29, .int .i64 0, .int .i64 0, .int .i64 0, .int .i64 0, .slice none 0 0, .slice none 0 0] 39)).alloc (.cells #[.slice (some ⟨V + 1, 0, none⟩) 1 1] 37) = W0 := ⟨_, rfl⟩
  rw [hW0]
  have BX := hid (show MCell4 W0 V ∧ (∀ i, W0.frozen? ⟨V, i, none⟩ = false) ∧ Below w1.heap.size w1 W0 ∧ V + 2 < W0.heap.size ∧ w1.heap.size ≤ V from by
    subst hV hW0
    exact ⟨⟨cell_on (new (new (same _) _) _) (by simp), cell_on (new (new (same _) _) _) (by simp), cell_on (new (new (same _) _) _) (by simp), cell_on (new (new (same _) _) _) (by simp)⟩, fun i => by rw [World.frozen?_alloc_old _ _ _ (by show w1.heap.size ≠ _; simp; omega), World.frozen?_alloc_old _ _ _ (by show w1.heap.size ≠ _; simp)]; exact World.frozen?_alloc_new _ _ _ i, new (new (new (same _) _) _) _, by simp, Nat.le_refl _⟩)
  have BD := hid (show BodyAt W0 V from by subst hV hW0; exact bodyAt_new w1)
  clear hW0
  have ST := hid (show GSt w1 W0 V 33 5 0 3 (csP V) (elP) fpL W0 (slv ⟨none, 0, 0⟩) (fun _ => 0) from GSt.start _ BX.out.1.c3 BX.out.2.1 BX.out.2.2.1 (by have := BX.out.2.2.2.1; omega) BX.out.2.2.2.2)
  obtain ⟨vs, hvs⟩ : ∃ vs : Sl, vs = ⟨none, 0, 0⟩ := ⟨_, rfl⟩
  rw [← hvs] at ST
  have hst := ST.out
  clear ST
  have hcV : W0.cell? ⟨V, 3, none⟩ = some (.slice vs.a vs.n vs.c) := hst.c
  have hcD : W0.drew.cell? ⟨V, 3, none⟩ = some (.slice vs.a vs.n vs.c) := hst.c
  have NV := hid (show some V ≠ (slv vs).ownBlock from fun e => by have := (hst.g.own.lt V e.symm).1; have := hst.lt; omega)
  have HST := hid hst
  have bx0 := hid (show Below W0.drew.heap.size W0.drew W0.drew from same _)
  clear hst hvs bx0
  obtain ⟨w2, hw2⟩ : ∃ w2, World.alloc W0 (.cells #[.int .i64 1, .int .i64 1, .int .i64 1, .int .i64 1, .int .i64 1] 3) = w2 := ⟨_, rfl⟩
  have z2 : w2.heap.size = W0.heap.size + 1 := by rw [← hw2]; simp
  have B2 := hid (show Below W0.heap.size W0 w2 by rw [← hw2]; exact new (same _) _)
  have ea := hid (show elP W0.heap.size w2 0 W0.heap.size by rw [← hw2]; exact own_five W0 (Nat.le_refl _))
  have hc2 : w2.cell? ⟨V, 3, none⟩ = some (.slice vs.a vs.n vs.c) := cell_on B2.out hcV
  have ob := B2.out
  have os := ob.size
  have zs := HST.out.size
  have os2 : W0.heap.size ≤ w2.heap.size := Nat.le_trans zs os
  clear os zs ob
  obtain ⟨v5, w4, hrun, hown4, hgr4, hat4⟩ := app_gen (w2 := w2) underF infoF rfl (by decide) (by decide) (owns_on B2.out HST.out.g.own) (by omega) os2 #[.string ⟨#[102]⟩, .bool false, .slice (some ⟨W0.heap.size, 0, none⟩) 5 5, .int .i64 0, .slice (some ⟨V + 1 + 1, 0, none⟩) 1 1] rfl (by intro x hx; simp at hx; rcases hx with rfl | rfl | rfl | rfl | rfl <;> rfl) 25
  obtain ⟨sv, rfl⟩ := owns_slv hown4
  have hc3 : (World.alloc w2 (.cells #[.string ⟨#[102]⟩, .bool false, .slice (some ⟨W0.heap.size, 0, none⟩) 5 5, .int .i64 0, .slice (some ⟨V + 1 + 1, 0, none⟩) 1 1] 33)).cell? ⟨V, 3, none⟩ = some (.slice vs.a vs.n vs.c) := cell_on (new (same _) _) hc2
  have hc4 : w4.cell? ⟨V, 3, none⟩ = some (.slice vs.a vs.n vs.c) := by rw [World.cell?_of_block (w := World.alloc w2 _) (hgr4.block V (World.block_lt_of_cell? _ _ hc3) NV.out)]; exact hc3
  have fz4 : w4.frozen? ⟨V, 3, none⟩ = false := by rw [World.frozen?_of_block (w := World.alloc w2 _) (hgr4.block V (World.block_lt_of_cell? _ _ hc3) NV.out), World.frozen?_alloc_old _ _ _ (by have := World.block_lt_of_cell? _ _ hc2; show V ≠ _; simp at this ⊢; omega), B2.out.frozen (World.block_lt_of_cell? _ _ hcV)]; exact HST.out.fz 3
  have HAT := hid hat4
  have OWN := hid hown4
  have GR := hid hgr4
  clear hat4 hown4 hgr4 hc3 z2
  obtain ⟨t2, g2⟩ := HST.out.stepn (stabP _) (a := W0.heap.size) B2.out ea.out (fun (b : Nat) hb => by (obtain rfl : b = W0.heap.size := hb); exact ⟨Nat.le_refl _, (ea.out.lt _ rfl).2⟩) OWN.out GR.out HAT.out
  obtain ⟨hn, hrow⟩ := grow_row (p := FAt) (f := fun i => blkF ⟨#[102]⟩ ⟨some ⟨t2 0, 0, none⟩, 5, 5⟩ ⟨some ⟨V + 1 + 1, 0, none⟩, 1, 1⟩ (fun _ => ⟨some ⟨V + 1, 0, none⟩, 1, 1⟩) (fun _ _ => retI) (fun _ _ _ => 0)) g2.g (by omega) (fun _ _ => rfl) (fun g i hi h => by (obtain rfl : i = 0 := (by omega)); exact ⟨h 0 (by decide), h 1 (by decide), h 2 (by decide), h 3 (by decide), h 4 (by decide)⟩)
  have hst := g2
  have hck3 := res_par HK.out (n := 5) hrow hn (BD.out.blk2 hst) (own_ints (n := 5) (hst.g.el 0 (by decide)) (by decide)) rfl (by decide)
  rw [if_pos (by decide)] at hck3
  obtain ⟨w9, hw9⟩ : ∃ w9, w4.setCell ⟨V, 3, none⟩ (.slice sv.a sv.n sv.c) = w9 := ⟨_, rfl⟩
  rw [show w4.setCell ⟨V, 3, none⟩ (slv sv) = w9 from hw9] at hst hck3
  have CK := hid hck3
  have c3 := hst.c
  have c0 := (hst.o 0 (by decide)).trans BX.out.1.c0
  have c1 := (hst.o 1 (by decide)).trans BX.out.1.c1
  have c2 := (hst.o 2 (by decide)).trans BX.out.1.c2
  have LO := hid hst.low
  clear hst hn hrow g2 hck3
  go_wp2_with (first | (go_at_call 15; refine (CK.out _ (same _)).mono ?_; rintro e w5 ⟨rfl, hb5⟩; have B5 := hid hb5; clear hb5) | (at_builtin; refine Wl.wpList_app (.tmp 100) (.tmp 104) rfl rfl rfl rfl rfl hrun ?_))
  go_ret
  exact ⟨rfl, View.more (View.more st1.out LO.out) B5.out⟩

set_option maxRecDepth 10000 in
set_option maxHeartbeats 8000000 in
theorem lim3_true (which : Int) (w : World) (hck : ChkC) (hfi : ∀ w, Calls Try.prog 13 #[] w fun e w' => e = .returned (.bool true) ∧ Below w.heap.size w w') (a0 : Nat) (h1 : bits .and .i64 which 255 = (a0 : Int)) (h2 : (a0 : Int).tmod 6 = 3) :
    Calls Try.prog 4 #[.int .i64 which, .bool true] w fun e w' => e = .returned (.bool true) ∧ Below w.heap.size w w' := by
  have HF := hid hfi
  have HK := hid hck
  clear hfi hck
  go_enter Try.func4, Try.ntmps4
  go_upto_region 28 with (go_at_call 13; refine (HF.out _).mono ?_; rintro e w1 ⟨rfl, hb⟩; have st1 := hid hb; clear hb)
  clear h1 h2
  obtain ⟨V, hV⟩ : ∃ V, w1.heap.size = V := ⟨_, rfl⟩
  rw [hV]
  obtain ⟨W0, hW0⟩ : ∃ W0, ((w1.alloc (.cells #[.slice none 0 0, .slice none 0 0, .slice none 0 0, .slice none 0 0] 27)).alloc (.cells #[.int .i64 29, .int .i64 0, .int .i64 0, .int .i64 0, .int .i64 0, .slice none 0 0, .slice none 0 0] 39)).alloc (.cells #[.slice (some ⟨V + 1, 0, none⟩) 1 1] 37) = W0 := ⟨_, rfl⟩
  rw [hW0]
  have BX := hid (show MCell4 W0 V ∧ (∀ i, W0.frozen? ⟨V, i, none⟩ = false) ∧ Below w1.heap.size w1 W0 ∧ V + 2 < W0.heap.size ∧ w1.heap.size ≤ V from by
    subst hV hW0
    exact ⟨⟨cell_on (new (new (same _) _) _) (by simp), cell_on (new (new (same _) _) _) (by simp), cell_on (new (new (same _) _) _) (by simp), cell_on (new (new (same _) _) _) (by simp)⟩, fun i => by rw [World.frozen?_alloc_old _ _ _ (by show w1.heap.size ≠ _; simp; omega), World.frozen?_alloc_old _ _ _ (by show w1.heap.size ≠ _; simp)]; exact World.frozen?_alloc_new _ _ _ i, new (new (new (same _) _) _) _, by simp, Nat.le_refl _⟩)
  have BD := hid (show BodyAt W0 V from by subst hV hW0; exact bodyAt_new w1)
  clear hW0
  have ST := hid (show GSt w1 W0 V 33 5 0 3 (csP V) (elP) fpL W0 (slv ⟨none, 0, 0⟩) (fun _ => 0) from GSt.start _ BX.out.1.c3 BX.out.2.1 BX.out.2.2.1 (by have := BX.out.2.2.2.1; omega) BX.out.2.2.2.2)
  obtain ⟨vs, hvs⟩ : ∃ vs : Sl, vs = ⟨none, 0, 0⟩ := ⟨_, rfl⟩
  rw [← hvs] at ST
  have hst := ST.out
  clear ST
  have hcV : W0.cell? ⟨V, 3, none⟩ = some (.slice vs.a vs.n vs.c) := hst.c
  have hcD : W0.drew.cell? ⟨V, 3, none⟩ = some (.slice vs.a vs.n vs.c) := hst.c
  have NV := hid (show some V ≠ (slv vs).ownBlock from fun e => by have := (hst.g.own.lt V e.symm).1; have := hst.lt; omega)
  have HST := hid hst
  have bx0 := hid (show Below W0.drew.heap.size W0.drew W0.drew from same _)
  clear hst hvs bx0
  obtain ⟨w2, hw2⟩ : ∃ w2, World.alloc W0 (.cells #[.int .i64 1, .int .i64 1, .int .i64 1, .int .i64 1, .int .i64 1] 3) = w2 := ⟨_, rfl⟩
  have z2 : w2.heap.size = W0.heap.size + 1 := by rw [← hw2]; simp
  have B2 := hid (show Below W0.heap.size W0 w2 by rw [← hw2]; exact new (same _) _)
  have ea := hid (show elP W0.heap.size w2 0 W0.heap.size by rw [← hw2]; exact own_five W0 (Nat.le_refl _))
  have hc2 : w2.cell? ⟨V, 3, none⟩ = some (.slice vs.a vs.n vs.c) := cell_on B2.out hcV
  have ob := B2.out
  have os := ob.size
  have zs := HST.out.size
  have os2 : W0.heap.size ≤ w2.heap.size := Nat.le_trans zs os
  clear os zs ob
  obtain ⟨v5, w4, hrun, hown4, hgr4, hat4⟩ := app_gen (w2 := w2) underF infoF rfl (by decide) (by decide) (owns_on B2.out HST.out.g.own) (by omega) os2 #[.string ⟨#[102]⟩, .bool false, .slice (some ⟨W0.heap.size, 0, none⟩) 5 5, .int .i64 0, .slice (some ⟨V + 1 + 1, 0, none⟩) 1 1] rfl (by intro x hx; simp at hx; rcases hx with rfl | rfl | rfl | rfl | rfl <;> rfl) 25
  obtain ⟨sv, rfl⟩ := owns_slv hown4
  have hc3 : (World.alloc w2 (.cells #[.string ⟨#[102]⟩, .bool false, .slice (some ⟨W0.heap.size, 0, none⟩) 5 5, .int .i64 0, .slice (some ⟨V + 1 + 1, 0, none⟩) 1 1] 33)).cell? ⟨V, 3, none⟩ = some (.slice vs.a vs.n vs.c) := cell_on (new (same _) _) hc2
  have hc4 : w4.cell? ⟨V, 3, none⟩ = some (.slice vs.a vs.n vs.c) := by rw [World.cell?_of_block (w := World.alloc w2 _) (hgr4.block V (World.block_lt_of_cell? _ _ hc3) NV.out)]; exact hc3
  have fz4 : w4.frozen? ⟨V, 3, none⟩ = false := by rw [World.frozen?_of_block (w := World.alloc w2 _) (hgr4.block V (World.block_lt_of_cell? _ _ hc3) NV.out), World.frozen?_alloc_old _ _ _ (by have := World.block_lt_of_cell? _ _ hc2; show V ≠ _; simp at this ⊢; omega), B2.out.frozen (World.block_lt_of_cell? _ _ hcV)]; exact HST.out.fz 3
  have HAT := hid hat4
  have OWN := hid hown4
  have GR := hid hgr4
  clear hat4 hown4 hgr4 hc3 z2
  obtain ⟨t2, g2⟩ := HST.out.stepn (stabP _) (a := W0.heap.size) B2.out ea.out (fun (b : Nat) hb => by (obtain rfl : b = W0.heap.size := hb); exact ⟨Nat.le_refl _, (ea.out.lt _ rfl).2⟩) OWN.out GR.out HAT.out
  have hst := g2
  have hV := BX.out.2.2.2.1
  obtain ⟨w9, hw9⟩ : ∃ w9, w4.setCell ⟨V, 3, none⟩ (.slice sv.a sv.n sv.c) = w9 := ⟨_, rfl⟩
  rw [show w4.setCell ⟨V, 3, none⟩ (slv sv) = w9 from hw9] at hst
  obtain ⟨g, cap, hsv⟩ : ∃ g cap, sv = ⟨some ⟨g, 0, none⟩, 1, cap⟩ := own_one hst.g.own (by decide)
  subst hsv
  have G9 := hid hst
  have hcW : w9.drew.cell? ⟨V, 3, none⟩ = some (.slice (some ⟨g, 0, none⟩) 1 cap) := hst.c
  have fz9 := hid hst.fz
  have elp : elP W0.heap.size w9 0 (t2 0) := hst.g.el 0 (by decide)
  clear hst g2
  simp only [] at hrun hw9
  go_upto_region 30 with (at_builtin; refine Wl.wpList_app (.tmp 100) (.tmp 104) rfl rfl rfl rfl rfl hrun ?_)
  have hixf : ∀ wx, (Instr.indexAt 25 (.slice (some ⟨g, 0, none⟩) 1 cap) (.int .i64 0)).run Try.prog wx = .ok (.pointer (some ⟨g, 0, none⟩)) wx := by have := index_row (s := ⟨some ⟨g, 0, none⟩, 1, cap⟩) (off := 0) rfl underF size33 (k := 0) Nat.one_pos; simpa using this
  obtain ⟨wq, hwq⟩ : ∃ wq, (World.alloc w9 (.cells #[.int .i64 1] 3)).drew = wq := ⟨_, rfl⟩
  have BQ := hid (show Below w9.heap.size w9 wq by rw [← hwq]; exact Below.drew (new (same _) _))
  have hcq : wq.cell? ⟨V, 3, none⟩ = some (.slice (some ⟨g, 0, none⟩) 1 cap) := cell_on BQ.out G9.out.c
  obtain ⟨v6, w6, hrun6, hown6, hgr6⟩ := app_one (X := W0.heap.size) (a := t2 0) BQ.out elp (by have := G9.out.size; exact this) (show wq.cell? ⟨w9.heap.size, 0, none⟩ = some (.int .i64 1) by rw [← hwq]; simp) (by rw [← hwq]; simp)
  obtain ⟨s6, rfl⟩ := owns_slv hown6
  obtain ⟨p1, p2, p3, p4, p5, p6⟩ := par_over HK.out G9.out BD.out BX.out.2.2.2.1 BQ.out hown6 hgr6
  have hne9 : V ≠ g := by have := BX.out.2.2.2.1; omega
  have h6V : w6.cell? ⟨V, 3, none⟩ = some (.slice (some ⟨g, 0, none⟩) 1 cap) := by rw [World.cell?_of_block (w := wq) (hgr6.block V (World.block_lt_of_cell? _ _ hcq) (fun e => by have q1 : V = t2 0 := Option.some.inj e; have q2 := (elp.lt (t2 0) rfl).1; have q3 := BX.out.2.2.2.1; omega))]; exact hcq
  have hfV : (w6.setCell ⟨g, 2, none⟩ (.slice s6.a s6.n s6.c)).cell? ⟨V, 3, none⟩ = some (.slice (some ⟨g, 0, none⟩) 1 cap) := by rw [World.cell?_setCell_other (h := fun e => hne9 (congrArg Addr.block e).symm)]; exact h6V
  have hg2 : w9.drew.cell? ⟨g, 2, none⟩ = some (.slice (some ⟨t2 0, 0, none⟩) 5 5) := by have := G9.out.g.own.cellAt (g := g) 2 (show 2 < 5 by decide); rw [show w9.drew.cell? ⟨g, 2, none⟩ = w9.cell? ⟨g, 2, none⟩ from rfl, this]; simp [fl]
  have hg2q : wq.cell? ⟨g, 2, none⟩ = some (.slice (some ⟨t2 0, 0, none⟩) 5 5) := cell_on BQ.out hg2
  have CK := hid p1
  have KP := hid p2
  have LW := hid p3
  have O9 := hid (fun i (h : i ≠ 3) => (G9.out.o i h))
  clear p1 p2 p3 p4 elp hgr6
  refine wp_region_noPanic ?_
  refine wp_region_held_drew (S := fun wx => wx.cell? ⟨V, 3, none⟩ = some (.slice (some ⟨g, 0, none⟩) 1 cap)) (by kernel_rfl) hcW (fun hS => ?_)
  refine Go.Proofs.Ytnodofbpogcheaa.Wl.takeAt (i := 0) (d := some 108) (v := ?vb1_0) rfl (by rfl) (by kernel_rfl) (by kernel_rfl) (by kernel_rfl) (fun _ _ _ h => h) (Or.inl ⟨by rfl, ?yb1_0⟩) hS ?_
  case yb1_0 => intro wx hSw; (go_simp) <;> with_reducible rfl
  simp only [Act.put, List.setIfInBounds_toArray, List.set_cons_zero, List.set_cons_succ]
  refine Go.Proofs.Ytnodofbpogcheaa.Wl.takeAt (i := 1) (d := some 109) (v := ?vb2_1) rfl (by rfl) (by kernel_rfl) (by kernel_rfl) (by kernel_rfl) (fun _ _ _ h => h) (Or.inl ⟨by rfl, ?yb2_1⟩) hS ?_
  case yb2_1 => intro wx hSw; (go_simp) <;> with_reducible rfl
  simp only [Act.put, List.setIfInBounds_toArray, List.set_cons_zero, List.set_cons_succ]
  refine Go.Proofs.Ytnodofbpogcheaa.Wl.takeAt (i := 2) (d := some 110) (v := ?vb3_2) rfl (by rfl) (by kernel_rfl) (by kernel_rfl) (by kernel_rfl) (fun _ _ _ h => h) (Or.inl ⟨by rfl, ?yb3_2⟩) hS ?_
  case yb3_2 => intro wx hSw; (go_simp) <;> with_reducible rfl
  simp only [Act.put, List.setIfInBounds_toArray, List.set_cons_zero, List.set_cons_succ]
  refine Go.Proofs.Ytnodofbpogcheaa.Wl.takeAt (i := 3) (d := some 111) (v := ?vb4_3) rfl (by rfl) (by kernel_rfl) (by kernel_rfl) (by kernel_rfl) (fun _ _ _ h => h) (Or.inl ⟨by rfl, ?yb4_3⟩) hS ?_
  case yb4_3 => intro wx hSw; (go_simp) <;> with_reducible rfl
  simp only [Act.put, List.setIfInBounds_toArray, List.set_cons_zero, List.set_cons_succ]
  refine Go.Proofs.Ytnodofbpogcheaa.Wl.takeAt (i := 4) (d := some 112) (v := ?vb5_4) rfl (by rfl) (by kernel_rfl) (by kernel_rfl) (by kernel_rfl) (fun _ _ _ h => h) (Or.inl ⟨by rfl, ?yb5_4⟩) hS ?_
  case yb5_4 => intro wx hSw; (go_simp) <;> with_reducible rfl
  simp only [Act.put, List.setIfInBounds_toArray, List.set_cons_zero, List.set_cons_succ]
  refine Go.Proofs.Ytnodofbpogcheaa.Wl.takeAt (i := 5) (d := some 113) (v := ?vb6_5) rfl (by rfl) (by kernel_rfl) (by kernel_rfl) (by kernel_rfl) (fun _ _ _ h => h) (Or.inl ⟨by rfl, ?yb6_5⟩) hS ?_
  case yb6_5 => intro wx hSw; (go_simp) <;> with_reducible rfl
  simp only [Act.put, List.setIfInBounds_toArray, List.set_cons_zero, List.set_cons_succ]
  refine wpAnyH_ready (rs := [6, 7]) (by kernel_rfl) (by simp) ?_
  refine AllReadyH.cons rfl (fun K hK => ?_) (AllReadyH.cons rfl (fun K hK => ?_) AllReadyH.nil)
  · go_simp
    refine hK.out _ _ hcW (fun _ => ?_)
    clear hK K
    replace hS := hcW
    try simp only [Act.put, List.setIfInBounds_toArray, List.set_cons_zero, List.set_cons_succ]
    refine wpAnyH_ready (rs := [7]) (by kernel_rfl) (by simp) ?_
    refine AllReadyH.cons rfl (fun K hK => ?_) AllReadyH.nil
    go_simp
    refine hK.out _ _ hcq (fun _ => ?_)
    clear hK K
    replace hS := hcq
    try simp only [Act.put, List.setIfInBounds_toArray, List.set_cons_zero, List.set_cons_succ]
    refine wpAnyH_ready (rs := [8]) (by kernel_rfl) (by simp) ?_
    refine AllReadyH.cons rfl (fun K hK => ?_) AllReadyH.nil
    rw [if_pos (by rfl)]
    refine Go.Proofs.Ytnodofbpogcheaa.Wl.wp_app (s := .tmp 114) (x := .tmp 115) (t := 28) (d := some 116) rfl rfl rfl rfl rfl hrun6 ?_
    try simp only [Act.put, List.setIfInBounds_toArray, List.set_cons_zero, List.set_cons_succ]
    refine hK.out _ _ h6V (fun _ => ?_)
    clear hK K
    replace hS := h6V
    try simp only [Act.put, List.setIfInBounds_toArray, List.set_cons_zero, List.set_cons_succ]
    refine Go.Proofs.Ytnodofbpogcheaa.Wl.takeAt (i := 9) (d := some 117) (v := ?vb7_9) rfl (by rfl) (by kernel_rfl) (by kernel_rfl) (by kernel_rfl) (fun _ _ _ h => h) (Or.inl ⟨by rfl, ?yb7_9⟩) hS ?_
    case yb7_9 => intro wx hSw; (go_simp) <;> with_reducible rfl
    simp only [Act.put, List.setIfInBounds_toArray, List.set_cons_zero, List.set_cons_succ]
    refine Go.Proofs.Ytnodofbpogcheaa.Wl.takeAt (i := 10) (d := some 118) (v := ?vb8_10) rfl (by rfl) (by kernel_rfl) (by kernel_rfl) (by kernel_rfl) (fun _ _ _ h => h) (Or.inl ⟨by rfl, ?yb8_10⟩) hS ?_
    case yb8_10 => intro wx hSw; (go_simp) <;> with_reducible rfl
    simp only [Act.put, List.setIfInBounds_toArray, List.set_cons_zero, List.set_cons_succ]
    refine wpAnyH_ready (rs := [11]) (by kernel_rfl) (by simp) ?_
    refine AllReadyH.cons rfl (fun K hK => ?_) AllReadyH.nil
    go_simp
    refine hK.out _ _ hfV (fun _ => ?_)
    clear hK K
    replace hS := hfV
    try simp only [Act.put, List.setIfInBounds_toArray, List.set_cons_zero, List.set_cons_succ]
    refine wpAnyH_done (by kernel_rfl) ?_ _
    refine NoPanic.normal ?_
    have b0 : (w6.setCell ⟨g, 2, none⟩ (.slice s6.a s6.n s6.c)).cell? ⟨V, 0, none⟩ = some (.slice none 0 0) := by rw [World.cell?_of_block (w := w9) (KP.out V hne9 (by have := BX.out.2.2.2.1; omega)), O9.out 0 (by decide)]; exact BX.out.1.c0
    have b1 : (w6.setCell ⟨g, 2, none⟩ (.slice s6.a s6.n s6.c)).cell? ⟨V, 1, none⟩ = some (.slice none 0 0) := by rw [World.cell?_of_block (w := w9) (KP.out V hne9 (by have := BX.out.2.2.2.1; omega)), O9.out 1 (by decide)]; exact BX.out.1.c1
    have b2 : (w6.setCell ⟨g, 2, none⟩ (.slice s6.a s6.n s6.c)).cell? ⟨V, 2, none⟩ = some (.slice none 0 0) := by rw [World.cell?_of_block (w := w9) (KP.out V hne9 (by have := BX.out.2.2.2.1; omega)), O9.out 2 (by decide)]; exact BX.out.1.c2
    obtain ⟨wf, hwf⟩ : ∃ wf, w6.setCell ⟨g, 2, none⟩ (.slice s6.a s6.n s6.c) = wf := ⟨_, rfl⟩
    rw [hwf]
    rw [hwf] at b0 b1 b2 hfV
    rw [show w6.setCell ⟨g, 2, none⟩ (slv s6) = wf from hwf] at CK LW
    clear hwf
    go_wp2_with (go_at_call 15; refine (CK.out _ (same _)).mono ?_; rintro e w5 ⟨rfl, hb5⟩; have B5 := hid hb5; clear hb5)
    go_ret
    exact ⟨rfl, View.more (View.more st1.out LW.out) B5.out⟩
  · go_simp
    refine hK.out _ _ hcq (fun _ => ?_)
    clear hK K
    replace hS := hcq
    try simp only [Act.put, List.setIfInBounds_toArray, List.set_cons_zero, List.set_cons_succ]
    refine wpAnyH_ready (rs := [6]) (by kernel_rfl) (by simp) ?_
    refine AllReadyH.cons rfl (fun K hK => ?_) AllReadyH.nil
    go_simp
    refine hK.out _ _ hcq (fun _ => ?_)
    clear hK K
    replace hS := hcq
    try simp only [Act.put, List.setIfInBounds_toArray, List.set_cons_zero, List.set_cons_succ]
    refine wpAnyH_ready (rs := [8]) (by kernel_rfl) (by simp) ?_
    refine AllReadyH.cons rfl (fun K hK => ?_) AllReadyH.nil
    rw [if_pos (by rfl)]
    refine Go.Proofs.Ytnodofbpogcheaa.Wl.wp_app (s := .tmp 114) (x := .tmp 115) (t := 28) (d := some 116) rfl rfl rfl rfl rfl hrun6 ?_
    try simp only [Act.put, List.setIfInBounds_toArray, List.set_cons_zero, List.set_cons_succ]
    refine hK.out _ _ h6V (fun _ => ?_)
    clear hK K
    replace hS := h6V
    try simp only [Act.put, List.setIfInBounds_toArray, List.set_cons_zero, List.set_cons_succ]
    refine Go.Proofs.Ytnodofbpogcheaa.Wl.takeAt (i := 9) (d := some 117) (v := ?vb9_9) rfl (by rfl) (by kernel_rfl) (by kernel_rfl) (by kernel_rfl) (fun _ _ _ h => h) (Or.inl ⟨by rfl, ?yb9_9⟩) hS ?_
    case yb9_9 => intro wx hSw; (go_simp) <;> with_reducible rfl
    simp only [Act.put, List.setIfInBounds_toArray, List.set_cons_zero, List.set_cons_succ]
    refine Go.Proofs.Ytnodofbpogcheaa.Wl.takeAt (i := 10) (d := some 118) (v := ?vb10_10) rfl (by rfl) (by kernel_rfl) (by kernel_rfl) (by kernel_rfl) (fun _ _ _ h => h) (Or.inl ⟨by rfl, ?yb10_10⟩) hS ?_
    case yb10_10 => intro wx hSw; (go_simp) <;> with_reducible rfl
    simp only [Act.put, List.setIfInBounds_toArray, List.set_cons_zero, List.set_cons_succ]
    refine wpAnyH_ready (rs := [11]) (by kernel_rfl) (by simp) ?_
    refine AllReadyH.cons rfl (fun K hK => ?_) AllReadyH.nil
    go_simp
    refine hK.out _ _ hfV (fun _ => ?_)
    clear hK K
    replace hS := hfV
    try simp only [Act.put, List.setIfInBounds_toArray, List.set_cons_zero, List.set_cons_succ]
    refine wpAnyH_done (by kernel_rfl) ?_ _
    refine NoPanic.normal ?_
    have b0 : (w6.setCell ⟨g, 2, none⟩ (.slice s6.a s6.n s6.c)).cell? ⟨V, 0, none⟩ = some (.slice none 0 0) := by rw [World.cell?_of_block (w := w9) (KP.out V hne9 (by have := BX.out.2.2.2.1; omega)), O9.out 0 (by decide)]; exact BX.out.1.c0
    have b1 : (w6.setCell ⟨g, 2, none⟩ (.slice s6.a s6.n s6.c)).cell? ⟨V, 1, none⟩ = some (.slice none 0 0) := by rw [World.cell?_of_block (w := w9) (KP.out V hne9 (by have := BX.out.2.2.2.1; omega)), O9.out 1 (by decide)]; exact BX.out.1.c1
    have b2 : (w6.setCell ⟨g, 2, none⟩ (.slice s6.a s6.n s6.c)).cell? ⟨V, 2, none⟩ = some (.slice none 0 0) := by rw [World.cell?_of_block (w := w9) (KP.out V hne9 (by have := BX.out.2.2.2.1; omega)), O9.out 2 (by decide)]; exact BX.out.1.c2
    obtain ⟨wf, hwf⟩ : ∃ wf, w6.setCell ⟨g, 2, none⟩ (.slice s6.a s6.n s6.c) = wf := ⟨_, rfl⟩
    rw [hwf]
    rw [hwf] at b0 b1 b2 hfV
    rw [show w6.setCell ⟨g, 2, none⟩ (slv s6) = wf from hwf] at CK LW
    clear hwf
    go_wp2_with (go_at_call 15; refine (CK.out _ (same _)).mono ?_; rintro e w5 ⟨rfl, hb5⟩; have B5 := hid hb5; clear hb5)
    go_ret
    exact ⟨rfl, View.more (View.more st1.out LW.out) B5.out⟩

end Go.Proofs.Ytnodofbpogcheaa.Wf

/-
  WfLimits: a row of numbers, a chain of blocks, as they grow.
-/
namespace Go.Proofs.Ytnodofbpogcheaa.Wf
open Go.RowKit View Rd Num Copy Go.Proofs.Ytnodofbpogcheaa.Mod Go.Proofs.Ytnodofbpogcheaa.Wl Go.Proofs.Ytnodofbpogcheaa.Chk Go.Proofs.Ytnodofbpogcheaa.Flo

set_option linter.unusedVariables false

abbrev csN (n : Nat) (i : Nat) (_ : Unit) : List Value := (nuI n i).cells.toList

theorem nu_row {n k : Nat} (h : k + 1 < n) : csN n k () = [.int .i64 1, .int .i64 1, .int .i64 ((k : Int) + 1), .int .i64 0, .int .i64 (k : Int), .slice none 0 0, .slice none 0 0] := by
  have e : nuI n k = ⟨1, 1, ((k + 1 : Nat) : Int), 0, (k : Int), no0, no0⟩ := if_pos h
  show (nuI n k).cells.toList = _
  rw [e]
  simp

theorem nu_end {n k : Nat} (h : ¬ k + 1 < n) : csN n k () = [.int .i64 29, .int .i64 0, .int .i64 0, .int .i64 0, .int .i64 0, .slice none 0 0, .slice none 0 0] := by
  have e : nuI n k = retI := if_neg h
  show (nuI n k).cells.toList = _
  rw [e]

theorem nu_inss {X n : Nat} {w : World} {s : Sl} {t : Nat → Unit} (g : Grow X 39 7 n w (slv s) (csN n) (noEl X) noFp t) (hn : n ≤ 5000) : s.n = n ∧ Inss w s (nuI n) :=
  grow_row (p := InsAt) (f := nuI n) g hn (fun _ _ => rfl) (fun g i hi h => ⟨h 0 (by decide), h 1 (by decide), h 2 (by decide), h 3 (by decide), h 4 (by decide), h 5 (by decide), h 6 (by decide)⟩)

abbrev csB (_ : Nat) (a : Nat × Nat) : List Value := [.slice (some ⟨a.2, 0, none⟩) 1 1]
def elB (n V : Nat) (_ : Nat) (w : World) (i : Nat) (a : Nat × Nat) : Prop := (i + 1 < n → w.cell? ⟨a.1, 0, none⟩ = some (.int .i64 ((i : Int) + 1)) ∧ InsAt w a.2 0 (jumpI a.1) ∧ a.1 ≠ 0) ∧ (¬ i + 1 < n → a = (0, V + 1))
def fpB (a : Nat × Nat) (b : Nat) : Prop := a.1 ≠ 0 ∧ (b = a.1 ∨ b = a.2)

theorem stabB (n V X : Nat) : Stable (elB n V X) fpB := fun w w' i a h hz hb => by
  refine ⟨fun hl => ?_, h.2⟩
  obtain ⟨h1, h2, h3⟩ := h.1 hl
  have e1 := hb a.1 ⟨h3, .inl rfl⟩ (World.block_lt_of_cell? _ _ h1)
  have e2 := hb a.2 ⟨h3, .inr rfl⟩ (World.block_lt_of_cell? _ _ h2.c0)
  refine ⟨by rw [World.cell?_of_block (w := w) e1]; exact h1, ⟨?_, ?_, ?_, ?_, ?_, ?_, ?_⟩, h3⟩
  · rw [World.cell?_of_block (w := w) e2]; exact h2.c0
  · rw [World.cell?_of_block (w := w) e2]; exact h2.c1
  · rw [World.cell?_of_block (w := w) e2]; exact h2.c2
  · rw [World.cell?_of_block (w := w) e2]; exact h2.c3
  · rw [World.cell?_of_block (w := w) e2]; exact h2.c4
  · rw [World.cell?_of_block (w := w) e2]; exact h2.c5
  · rw [World.cell?_of_block (w := w) e2]; exact h2.c6

theorem app_old {w2 : World} {X0 T sT bytes k : Nat} {zero v : Value} {xs : List Value} (hT : Try.prog.underlying sT = some (.slice T)) (hI : (Try.prog.info? T).map (fun i => (i.zero, i.size, i.bytes)) = some (some zero, 1, bytes)) (hzs : zero.cells.size = 1) (hb : bytes ≤ 1000)
    (own : w2.ownsRow X0 T 1 v k xs) (hk : k ≤ 1000) (hbase : X0 ≤ w2.heap.size) (b : Nat) (u : Value) (hc : w2.cell? ⟨b, 0, none⟩ = some u) (h1 : u.oneCell' = true) (ty : TypeId) :
    ∃ v' w4, (Builtin.append_ #[sT, sT] ty #[v, .slice (some ⟨b, 0, none⟩) 1 1]).run Try.prog w2 = .ok v' w4 ∧ w4.ownsRow X0 T 1 v' (k + 1) (xs ++ [u]) ∧ w2.grownBy w4 v.ownBlock ∧ (v'.ownBlock = v.ownBlock ∨ v'.ownBlock = some w2.heap.size) := by
  obtain ⟨i0, hi, hz0, hz1, hz2⟩ := info_parts hI
  have hle : (k + 1) * bytes ≤ 1001 * 1000 := Nat.mul_le_mul (by omega) hb
  obtain ⟨v', w4, q1, q2, q3, _, q5⟩ := run_append_own_at (P := Try.prog) w2 X0 sT ty T i0 zero 1 bytes hT hi hz0 hz1 hz2 hzs (by decide) v k _ own ⟨b, 0, none⟩ 1 1 [u] rfl (fun j x hx => by
    obtain rfl : j = 0 := by have := (List.getElem?_eq_some_iff.1 hx).1; simpa using this
    simp only [List.getElem?_cons_zero, Option.some.injEq] at hx
    subst hx
    simpa [Addr.add_lit] using hc) (by intro x hx; simp at hx; subst hx; exact h1) (by simp only [maxLen]; omega) (by omega) hbase
  exact ⟨v', w4, q1, q2, q3, q5⟩

/-- The blocks of a chain, as they grew. -/
theorem ch_rows {X n V : Nat} {w : World} {s : Sl} {t : Nat → Nat × Nat} (g : Grow X 37 1 n w (slv s) csB (elB n V X) fpB t) (hb : BodyAt w V) (hn : n ≤ 5000) :
    s.n = n ∧ Sls w s (fun j => ⟨some ⟨(t j).2, 0, none⟩, 1, 1⟩) ∧ (∀ j, j < n → Inss w ⟨some ⟨(t j).2, 0, none⟩, 1, 1⟩ (fun _ => chI n (fun j => (t j).1) j)) ∧ ∀ j, j + 1 < n → w.cell? ⟨(t j).1, 0, none⟩ = some (.int .i64 ((j + 1 : Nat) : Int)) := by
  obtain ⟨h1, h2⟩ := grow_row (p := fun w b o (x : Sl) => w.cell? ⟨b, o, none⟩ = some (.slice x.a x.n x.c)) (f := fun j => (⟨some ⟨(t j).2, 0, none⟩, 1, 1⟩ : Sl)) g hn (fun _ _ => rfl) (fun g i hi h => by have := h 0 (by decide); simpa using this)
  refine ⟨h1, ⟨h2.1, h2.2.1, h2.2.2.1, fun h0 => ?_⟩, fun j hj => ?_, fun j hj => ?_⟩
  · obtain ⟨b, off, e, hc⟩ := h2.2.2.2 h0
    exact ⟨b, off, e, fun i hi => by have := hc i hi; rwa [Nat.mul_one] at this⟩
  · obtain ⟨e1, e2⟩ := g.el j hj
    by_cases hl : j + 1 < n
    · have : chI n (fun j => (t j).1) j = jumpI (t j).1 := if_pos hl
      rw [this]; exact inss_one (e1 hl).2.1
    · have : chI n (fun j => (t j).1) j = retI := if_neg hl
      rw [this, e2 hl]; exact hb.2
  · obtain ⟨e1, e2⟩ := g.el j (by omega)
    have := (e1 hj).1
    rw [this]
    simp

theorem own_n {w : World} {X T z n : Nat} {sv : Sl} {xs : List Value} (h : w.ownsRow X T z (slv sv) n xs) (h0 : 0 < n) : sv.n = n := by
  obtain ⟨sa, sn, sc⟩ := sv
  rcases h.2 with ⟨e, h1⟩ | ⟨g, cap, cur, e, _⟩
  · omega
  · simp only [slv, Value.slice.injEq] at e
    exact e.2.1

theorem own_blk {w : World} {X T z n : Nat} {sv : Sl} {xs : List Value} (h : w.ownsRow X T z (slv sv) n xs) : ∀ b off, sv.a = some ⟨b, off, none⟩ → 0 < sv.n → X ≤ b := fun b off e h0 => by
  obtain ⟨sa, sn, sc⟩ := sv
  simp only at e
  subst e
  exact (h.lt b rfl).1

/-- The last row of all: a function's, in the variable's field. -/
theorem tail_fin {w7 w6 : World} {X V : Nat} {sv : Sl} {xs : List Value} (h : w6.ownsRow X 33 5 (slv sv) (0 + 1) xs) (hn : sv.n = 1) {c0 c1 c2 c3 c4 : Value} (hx : xs = [c0, c1, c2, c3, c4]) (hb : Below w7.heap.size w7 w6) (hV : V < w7.heap.size) (hX : ∀ b : Nat, X ≤ b → b ≠ V) :
    (∀ F : Nat → FV, (some c0 = some (.string (F 0).name) ∧ some c1 = some (.bool (F 0).out) ∧ some c2 = some (.slice (F 0).par.a (F 0).par.n (F 0).par.c) ∧ some c3 = some (.int .i64 (F 0).res) ∧ some c4 = some (.slice (F 0).blk.a (F 0).blk.n (F 0).blk.c)) → Row 5 FAt (w6.setCell ⟨V, 3, none⟩ (slv sv)) sv F) ∧
    (∀ b : Nat, X ≤ b → ∀ v, w7.cell? ⟨b, 0, none⟩ = some v → (w6.setCell ⟨V, 3, none⟩ (slv sv)).cell? ⟨b, 0, none⟩ = some v) ∧
    (∀ (s : Sl) (f : Nat → IV), (∀ b off, s.a = some ⟨b, off, none⟩ → 0 < s.n → X ≤ b) → Inss w7 s f → Inss (w6.setCell ⟨V, 3, none⟩ (slv sv)) s f) := by
  have other : ∀ b : Nat, X ≤ b → (w6.setCell ⟨V, 3, none⟩ (slv sv)).heap[b]? = w6.heap[b]? := fun b hb => Below.heap_setCell _ _ _ _ (hX b hb)
  subst hx
  refine ⟨fun F hF => ?_, fun b hXb v hv => ?_, fun s f hs hI => ?_⟩
  · obtain ⟨sa, sn, sc⟩ := sv
    simp only at hn
    subst hn
    rcases h.2 with ⟨e, h1⟩ | ⟨g, cap, cur, e, hg, h2, h3, h4⟩
    · omega
    · simp only [slv, Value.slice.injEq] at e
      obtain ⟨rfl, _, rfl⟩ := e
      refine ⟨by show 1 ≤ sc; omega, by show 1 ≤ _; omega, fun e => by simp at e, fun _ => ⟨g, 0, rfl, fun i hi => ?_⟩⟩
      obtain rfl : i = 0 := by simp at hi; omega
      have cc : ∀ r, r < 5 → (w6.setCell ⟨V, 3, none⟩ (slv ⟨some ⟨g, 0, none⟩, 1, sc⟩)).cell? ⟨g, r, none⟩ = [c0, c1, c2, c3, c4][r]? := fun r hr => by
        rw [World.cell?_of_block (w := w6) (other g hg)]
        exact h.cellAt (g := g) r (by omega)
      obtain ⟨f0, f1, f2, f3, f4⟩ := hF
      exact ⟨(cc 0 (by decide)).trans f0, (cc 1 (by decide)).trans f1, (cc 2 (by decide)).trans f2, (cc 3 (by decide)).trans f3, (cc 4 (by decide)).trans f4⟩
  · rw [World.cell?_of_block (w := w6) (other b hXb)]
    exact cell_on hb hv
  · obtain ⟨q1, q2, q3, q4⟩ := hI.on hb
    refine ⟨q1, q2, q3, fun h0 => ?_⟩
    obtain ⟨b, off, e, hc⟩ := q4 h0
    have ob := other b (hs b off e h0)
    refine ⟨b, off, e, fun i hi => ?_⟩
    have := hc i hi
    exact ⟨by rw [World.cell?_of_block (w := w6) ob]; exact this.c0, by rw [World.cell?_of_block (w := w6) ob]; exact this.c1, by rw [World.cell?_of_block (w := w6) ob]; exact this.c2, by rw [World.cell?_of_block (w := w6) ob]; exact this.c3, by rw [World.cell?_of_block (w := w6) ob]; exact this.c4, by rw [World.cell?_of_block (w := w6) ob]; exact this.c5, by rw [World.cell?_of_block (w := w6) ob]; exact this.c6⟩

end Go.Proofs.Ytnodofbpogcheaa.Wf
