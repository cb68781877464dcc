/-
  plnlaw3.IrApart answers true.
-/
import Derived.Test.YthaedlnefikigaaApartE
import Derived.Test.YthaedlnefikigaaFirst
import Derived.Deep.RegionHeld3
import Derived.Deep.CutRange
namespace Go.Proofs.Ythaedlnefikigaa.CpM
open Go.RowKit View Rd Copy Srt Go.Proofs.Ythaedlnefikigaa.Own Go.Proofs.Ythaedlnefikigaa.Mod Go.Proofs.Ythaedlnefikigaa.Num Go.Proofs.Ythaedlnefikigaa.Opn Go.Proofs.Ythaedlnefikigaa.First

set_option linter.unusedVariables false

/-- Behind the two copies: a may be written, b lies apart from it. -/
def Two (M : MV) (W : World) (A B : MV) (ab bb : Nat) (wx : World) : Prop :=
  ∃ qa : Nat → Prop, MBox wx ab A ∧ MBox wx bb B ∧ InM wx A ∧ InM wx B ∧ EqM B M ∧ SmallM A ∧ SmallM B ∧ WrM qa wx A ∧ LiesM (fun b => ¬ qa b ∧ b < wx.heap.size) B ∧ (∀ b, qa b → W.heap.size ≤ b ∧ b < wx.heap.size) ∧ Below W.heap.size W wx

theorem mbox_set {w : World} {b : Nat} {Z : MV} (h : MBox w b Z) (A : MV) : MBox ((((w.setCell ⟨b, 0, none⟩ (.slice A.ext.a A.ext.n A.ext.c)).setCell ⟨b, 1, none⟩ (.slice A.glo.a A.glo.n A.glo.c)).setCell ⟨b, 2, none⟩ (.slice A.tab.a A.tab.n A.tab.c)).setCell ⟨b, 3, none⟩ (.slice A.fns.a A.fns.n A.fns.c)) b A :=
  ⟨cell_other (ne_off (by omega)) (cell_other (ne_off (by omega)) (cell_other (ne_off (by omega)) (cell_same h.c0))), cell_other (ne_off (by omega)) (cell_other (ne_off (by omega)) (cell_same (cell_other (ne_off (by omega)) h.c1))), cell_other (ne_off (by omega)) (cell_same (cell_other (ne_off (by omega)) (cell_other (ne_off (by omega)) h.c2))), cell_same (cell_other (ne_off (by omega)) (cell_other (ne_off (by omega)) (cell_other (ne_off (by omega)) h.c3)))⟩

theorem mbox_far {w : World} {b c : Nat} {Z : MV} (h : MBox w b Z) (hne : b ≠ c) (x0 x1 x2 x3 : Value) : MBox ((((w.setCell ⟨c, 0, none⟩ x0).setCell ⟨c, 1, none⟩ x1).setCell ⟨c, 2, none⟩ x2).setCell ⟨c, 3, none⟩ x3) b Z := by
  refine h.at_block ?_
  rw [Below.heap_setCell _ _ _ _ hne, Below.heap_setCell _ _ _ _ hne, Below.heap_setCell _ _ _ _ hne, Below.heap_setCell _ _ _ _ hne]

theorem wr_frozen {p : Nat → Prop} {w w' : World} {M : MV} (h : WrM p w M) (hf : ∀ a, w'.frozen? a = w.frozen? a) : WrM p w' M :=
  have f : ∀ {s : Sl}, Wrt p w s → Wrt p w' s := fun h b o e h0 => ⟨(h b o e h0).1, fun i => by rw [hf]; exact (h b o e h0).2 i⟩
  ⟨fun i hi => f (h.ext i hi), fun i hi => f (h.glo i hi), fun i hi => f (h.tab i hi), fun k hk => ⟨f (h.fns k hk).par, fun j hj => f ((h.fns k hk).ins j hj), fun j hj t ht => f ((h.fns k hk).args j hj t ht), fun j hj t ht => f ((h.fns k hk).into j hj t ht)⟩⟩

theorem apart_fin {M A B Z1 Z2 : MV} {W we : World} {la ha lb hb ab bb : Nat} (hW : Below W.heap.size W we) (iA : InM we A) (iB : InM we B) (eB : EqM B M) (sA : SmallM A) (sB : SmallM B) (lA : LiesM (fun b => la ≤ b ∧ b < ha) A) (lB : LiesM (fun b => lb ≤ b ∧ b < hb) B)
    (wA : WrM (fun b => la ≤ b ∧ b < ha) we A) (xA : MBox we ab Z1) (xB : MBox we bb Z2) (sz : (la ≤ ha ∧ W.heap.size ≤ la ∧ ha ≤ lb ∧ hb ≤ we.heap.size) ∧ (ab < la ∨ ha ≤ ab) ∧ (ab < lb ∨ hb ≤ ab) ∧ (bb < la ∨ ha ≤ bb) ∧ (bb < lb ∨ hb ≤ bb) ∧ ab < we.heap.size ∧ bb < we.heap.size) (hne : ab ≠ bb) (ga : W.heap.size ≤ ab) (gb : W.heap.size ≤ bb) (hlb : lb ≤ we.heap.size) :
    Two M W A B ab bb ((((((((we.setCell ⟨ab, 0, none⟩ (.slice A.ext.a A.ext.n A.ext.c)).setCell ⟨ab, 1, none⟩ (.slice A.glo.a A.glo.n A.glo.c)).setCell ⟨ab, 2, none⟩ (.slice A.tab.a A.tab.n A.tab.c)).setCell ⟨ab, 3, none⟩ (.slice A.fns.a A.fns.n A.fns.c)).setCell ⟨bb, 0, none⟩ (.slice B.ext.a B.ext.n B.ext.c)).setCell ⟨bb, 1, none⟩ (.slice B.glo.a B.glo.n B.glo.c)).setCell ⟨bb, 2, none⟩ (.slice B.tab.a B.tab.n B.tab.c)).setCell ⟨bb, 3, none⟩ (.slice B.fns.a B.fns.n B.fns.c)) := by
  obtain ⟨⟨s1, s2, s3, s4⟩, s5, s6, s7, s8, s9, s10⟩ := sz
  have kk : Kept (fun b => b ≠ ab ∧ b ≠ bb) we ((((((((we.setCell ⟨ab, 0, none⟩ (.slice A.ext.a A.ext.n A.ext.c)).setCell ⟨ab, 1, none⟩ (.slice A.glo.a A.glo.n A.glo.c)).setCell ⟨ab, 2, none⟩ (.slice A.tab.a A.tab.n A.tab.c)).setCell ⟨ab, 3, none⟩ (.slice A.fns.a A.fns.n A.fns.c)).setCell ⟨bb, 0, none⟩ (.slice B.ext.a B.ext.n B.ext.c)).setCell ⟨bb, 1, none⟩ (.slice B.glo.a B.glo.n B.glo.c)).setCell ⟨bb, 2, none⟩ (.slice B.tab.a B.tab.n B.tab.c)).setCell ⟨bb, 3, none⟩ (.slice B.fns.a B.fns.n B.fns.c)) := by
    refine ⟨by simp, fun b hb' => ?_⟩
    rw [Below.heap_setCell _ _ _ _ hb'.2, Below.heap_setCell _ _ _ _ hb'.2, Below.heap_setCell _ _ _ _ hb'.2, Below.heap_setCell _ _ _ _ hb'.2, Below.heap_setCell _ _ _ _ hb'.1, Below.heap_setCell _ _ _ _ hb'.1, Below.heap_setCell _ _ _ _ hb'.1, Below.heap_setCell _ _ _ _ hb'.1]
  refine ⟨fun b => la ≤ b ∧ b < ha, mbox_far (mbox_set xA A) hne _ _ _ _, mbox_set (mbox_far xB hne.symm _ _ _ _) B, inM_lies iA kk (lA.mono fun b hb => by omega), inM_lies iB kk (lB.mono fun b hb => by omega), eB, sA, sB, wr_frozen wA (fun a => by simp), lB.mono fun b hb => ⟨by omega, by simp; omega⟩, fun b hb => ⟨by omega, by simp; omega⟩, CpM.four gb (CpM.four ga hW)⟩

set_option maxRecDepth 10000 in
set_option maxHeartbeats 8000000 in
theorem irApart_any (M : MV) (w : World) (hM : InM w M) (fM : FitsM M) :
    Calls Try.prog 4 #[M.val] w fun e w' => e = .returned (.bool true) ∧ Below w.heap.size w w' := by
  have HM := hid hM
  have FM := hid fM
  clear hM fM
  go_enter Try.func4, Try.ntmps4
  go_wp2_with fail
  refine (first_any _).mono ?_
  rintro e w1 ⟨rfl, hb1⟩
  have m1 : MBox w1 w.heap.size M := MBox.on hb1 (MBox.alloc w M)
  have B1 := hid (View.more (new (same w) _) hb1)
  have M1 := hid m1
  obtain ⟨c0, c1, c2, c3⟩ := m1
  clear hb1
  go_wp2_with fail
  refine (small_any M _ (HM.out.on B1.out)).mono ?_
  rintro e w2 ⟨r, rfl, hr, hb2⟩
  have B2 := hid (View.more B1.out hb2)
  have M2 := hid (M1.out.on hb2)
  clear c0 c1 c2 c3 hb2 B1 M1
  cases r with
  | false =>
    go_wp2_with fail
    refine (first_any _).mono ?_
    rintro e w3 ⟨rfl, hb3⟩
    go_wp2_with fail
    go_ret
    exact ⟨rfl, View.more B2.out hb3⟩
  | true =>
  have SM := hid (hr rfl)
  clear hr
  have gf := SM.out.fns
  obtain ⟨c0, c1, c2, c3⟩ := M2.out
  go_wp2_with fail
  refine (copy_ref M _ (HM.out.on B2.out) SM.out).mono ?_
  rintro e w3 ⟨N, rfl, hN, hE, hS3, hb3⟩
  go_upto_region 6 with fail
  obtain ⟨W, hW⟩ : ∃ W, w3.alloc (.cells (mcells N) 27) = W := ⟨_, rfl⟩
  obtain ⟨nb, hnb⟩ : ∃ nb, w3.heap.size = nb := ⟨_, rfl⟩
  have BW := hid (show Below w.heap.size w W by rw [← hW]; exact new (View.more B2.out hb3) _)
  have MW := hid (show MBox W w.heap.size M by rw [← hW]; exact (M2.out.on hb3).on (new (same _) _))
  have NW := hid (show MBox W nb N by rw [← hW, ← hnb]; exact MBox.alloc w3 N)
  have IN := hid (show InM W N by rw [← hW]; exact hN.on (new (same _) _))
  have IM := hid (HM.out.on BW.out)
  have EN := hid (And.intro hE hS3)
  rw [hW, hnb]
  clear hW hnb hN hE hS3 hb3 c0 c1 c2 c3 B2 M2
  go_cut [4, 5] from 15 to 18 (fun a b wx => ∃ ab bb A B, a = .pointer (some ⟨ab, 0, none⟩) ∧ b = .pointer (some ⟨bb, 0, none⟩) ∧ Two M W A B ab bb wx)
  case first =>
    have s0 : Below W.heap.size W W.drew := Below.drew (same _)
    have A0 : ∀ wx, Below W.heap.size W wx → wx.cell? ⟨w.heap.size, 0, none⟩ = some (.slice M.ext.a M.ext.n M.ext.c) := fun wx h => cell_on h MW.out.c0
    have A1 : ∀ wx, Below W.heap.size W wx → wx.cell? ⟨w.heap.size, 1, none⟩ = some (.slice M.glo.a M.glo.n M.glo.c) := fun wx h => cell_on h MW.out.c1
    have A2 : ∀ wx, Below W.heap.size W wx → wx.cell? ⟨w.heap.size, 2, none⟩ = some (.slice M.tab.a M.tab.n M.tab.c) := fun wx h => cell_on h MW.out.c2
    have A3 : ∀ wx, Below W.heap.size W wx → wx.cell? ⟨w.heap.size, 3, none⟩ = some (.slice M.fns.a M.fns.n M.fns.c) := fun wx h => cell_on h MW.out.c3
    refine wp_region_noPanic ?_
    refine wp_region_held_drew (S := fun wy => Below W.heap.size W wy) (by kernel_rfl) s0 (fun hS => ?_)
    refine Go.Proofs.Ythaedlnefikigaa.Own.takeAt (i := 0) (d := some 15) (v := ?vr0) rfl (by rfl) (by kernel_rfl) (by kernel_rfl) (by kernel_rfl) (fun _ _ _ h => h) (Or.inl ⟨by rfl, ?yr0⟩) hS ?_
    case yr0 => intro wx hSw; (go_simp) <;> with_reducible rfl
    simp only [Act.put, List.setIfInBounds_toArray, List.set_cons_zero, List.set_cons_succ]
    refine Go.Proofs.Ythaedlnefikigaa.Own.takeAt (i := 2) (d := some 17) (v := ?vr2) rfl (by rfl) (by kernel_rfl) (by kernel_rfl) (by kernel_rfl) (fun _ _ _ h => h) (Or.inl ⟨by rfl, ?yr2⟩) hS ?_
    case yr2 => intro wx hSw; (go_simp) <;> with_reducible rfl
    simp only [Act.put, List.setIfInBounds_toArray, List.set_cons_zero, List.set_cons_succ]
    obtain ⟨w0, hw0⟩ : ∃ w0, W.drew = w0 := ⟨_, rfl⟩
    have q0 : Below W.heap.size W w0 := by rw [← hw0]; exact s0
    have Z0 := hid (show w0.heap.size = W.heap.size by rw [← hw0]; rfl)
    rw [hw0] at hS ⊢
    clear hw0 s0
    refine wpAnyH_ready (rs := [1, 4, 5]) (by kernel_rfl) (by simp) ?_
    refine AllReadyH.cons rfl (fun K hK => ?_) (AllReadyH.cons rfl (fun K hK => ?_) (AllReadyH.cons rfl (fun K hK => ?_) AllReadyH.nil))
    · go_simp
      refine (copy_apart M _ (IM.out.on q0) SM.out).mono ?_
      rintro e w1 ⟨A, rfl, hA⟩
      have q1 : Below W.heap.size W w1 := View.more q0 hA.low
      have Z1 := hid hA.low.size
      have L1 := hid hA.low
      have HA := hid hA
      clear hA
      go_wp2_with fail
      refine hK.out _ _ q1 (fun _ => ?_)
      clear hK K
      replace hS := q1
      try simp only [Act.put, List.setIfInBounds_toArray, List.set_cons_zero, List.set_cons_succ]
      refine wpAnyH_ready (rs := [3, 4, 5]) (by kernel_rfl) (by simp) ?_
      refine AllReadyH.cons rfl (fun K hK => ?_) (AllReadyH.cons rfl (fun K hK => ?_) (AllReadyH.cons rfl (fun K hK => ?_) AllReadyH.nil))
      · go_simp
        refine (copy_apart M _ (IM.out.on q1) SM.out).mono ?_
        rintro e w2 ⟨B, rfl, hB⟩
        have q2 : Below W.heap.size W w2 := View.more q1 hB.low
        have Z2 := hid hB.low.size
        have L2 := hid hB.low
        have HB := hid hB
        clear hB
        go_wp2_with fail
        refine hK.out _ _ q2 (fun _ => ?_)
        clear hK K
        replace hS := q2
        try simp only [Act.put, List.setIfInBounds_toArray, List.set_cons_zero, List.set_cons_succ]
        refine wpAnyH_ready (rs := [4, 5]) (by kernel_rfl) (by simp) ?_
        refine AllReadyH.cons rfl (fun K hK => ?_) (AllReadyH.cons rfl (fun K hK => ?_) AllReadyH.nil)
        · go_simp
          obtain ⟨w3, hw3⟩ : ∃ w3, w2.alloc (.cells #[.slice none 0 0, .slice none 0 0, .slice none 0 0, .slice none 0 0] 27) = w3 := ⟨_, rfl⟩
          obtain ⟨ab, hab⟩ : ∃ ab, w2.heap.size = ab := ⟨_, rfl⟩
          have q3 : Below W.heap.size W w3 := by rw [← hw3]; exact new q2 _
          have L3 := hid (show Below w2.heap.size w2 w3 by rw [← hw3]; exact new (same _) _)
          have Z3 := hid (show w3.heap.size = w2.heap.size + 1 by rw [← hw3]; simp)
          have Xa := hid (show MBox w3 ab zeroM ∧ ∀ i, w3.frozen? ⟨ab, i, none⟩ = false by rw [← hw3, ← hab]; exact ⟨MBox.alloc w2 zeroM, fun i => World.frozen?_alloc_new _ _ _ i⟩)
          rw [hw3, hab]
          have Ya := hid hab
          clear hw3 hab
          refine hK.out _ _ q3 (fun _ => ?_)
          clear hK K
          replace hS := q3
          try simp only [Act.put, List.setIfInBounds_toArray, List.set_cons_zero, List.set_cons_succ]
          refine wpAnyH_ready (rs := [5]) (by kernel_rfl) (by simp) ?_
          refine AllReadyH.cons rfl (fun K hK => ?_) AllReadyH.nil
          go_simp
          obtain ⟨w4, hw4⟩ : ∃ w4, w3.alloc (.cells #[.slice none 0 0, .slice none 0 0, .slice none 0 0, .slice none 0 0] 27) = w4 := ⟨_, rfl⟩
          obtain ⟨bb, hbb⟩ : ∃ bb, w3.heap.size = bb := ⟨_, rfl⟩
          have q4 : Below W.heap.size W w4 := by rw [← hw4]; exact new q3 _
          have L4 := hid (show Below w3.heap.size w3 w4 by rw [← hw4]; exact new (same _) _)
          have Z4 := hid (show w4.heap.size = w3.heap.size + 1 by rw [← hw4]; simp)
          have Xb := hid (show MBox w4 bb zeroM ∧ ∀ i, w4.frozen? ⟨bb, i, none⟩ = false by rw [← hw4, ← hbb]; exact ⟨MBox.alloc w3 zeroM, fun i => World.frozen?_alloc_new _ _ _ i⟩)
          rw [hw4, hbb]
          have Yb := hid hbb
          clear hw4 hbb
          refine hK.out _ _ q4 (fun _ => ?_)
          clear hK K
          replace hS := q4
          try simp only [Act.put, List.setIfInBounds_toArray, List.set_cons_zero, List.set_cons_succ]
          have za := Ya.out
          have zb := Yb.out
          have z0 := Z0.out
          have z1 := Z1.out
          have z2 := Z2.out
          have z3 := Z3.out
          have z4 := Z4.out
          have mA := hid (((HA.out.inm.on L2.out).on L3.out).on L4.out)
          have mB := hid ((HB.out.inm.on L3.out).on L4.out)
          have wA := hid (((HA.out.wr.on HA.out.inm L2.out).on (HA.out.inm.on L2.out) L3.out).on ((HA.out.inm.on L2.out).on L3.out) L4.out)
          obtain ⟨a0, a1, a2, a3⟩ := (Xa.out.1.on L4.out)
          obtain ⟨g0, g1, g2, g3⟩ := Xb.out.1
          have BA := hid (Xa.out.1.on L4.out)
          have BB := hid Xb.out.1
          have fa : ∀ i, w4.frozen? ⟨ab, i, none⟩ = false := fun i => by rw [L4.out.frozen (by show ab < _; omega)]; exact Xa.out.2 i
          have fb : ∀ i, w4.frozen? ⟨bb, i, none⟩ = false := fun i => by exact Xb.out.2 i
          have gea : W.heap.size ≤ ab := by omega
          have geb : W.heap.size ≤ bb := by omega
          have hne : ab ≠ bb := by omega
          have hne2 : bb ≠ ab := by omega
          have SZ := hid (show (w0.heap.size ≤ w1.heap.size ∧ W.heap.size ≤ w0.heap.size ∧ w1.heap.size ≤ w1.heap.size ∧ w2.heap.size ≤ w4.heap.size) ∧ (ab < w0.heap.size ∨ w1.heap.size ≤ ab) ∧ (ab < w1.heap.size ∨ w2.heap.size ≤ ab) ∧ (bb < w0.heap.size ∨ w1.heap.size ≤ bb) ∧ (bb < w1.heap.size ∨ w2.heap.size ≤ bb) ∧ ab < w4.heap.size ∧ bb < w4.heap.size by omega)
          have HLB := hid (show w1.heap.size ≤ w4.heap.size by omega)
          clear za zb z0 z1 z2 z3 z4
          have s6 : Below W.heap.size W ((((w4.setCell ⟨ab, 0, none⟩ (.slice A.ext.a A.ext.n A.ext.c)).setCell ⟨ab, 1, none⟩ (.slice A.glo.a A.glo.n A.glo.c)).setCell ⟨ab, 2, none⟩ (.slice A.tab.a A.tab.n A.tab.c)).setCell ⟨ab, 3, none⟩ (.slice A.fns.a A.fns.n A.fns.c)) := CpM.four gea q4
          refine wpAnyH_ready (rs := [6]) (by kernel_rfl) (by simp) ?_
          refine AllReadyH.cons rfl (fun K hK => ?_) AllReadyH.nil
          go_simp
          refine hK.out _ _ s6 (fun _ => ?_)
          clear hK K
          replace hS := s6
          try simp only [Act.put, List.setIfInBounds_toArray, List.set_cons_zero, List.set_cons_succ]
          have s7 : Below W.heap.size W ((((((((w4.setCell ⟨ab, 0, none⟩ (.slice A.ext.a A.ext.n A.ext.c)).setCell ⟨ab, 1, none⟩ (.slice A.glo.a A.glo.n A.glo.c)).setCell ⟨ab, 2, none⟩ (.slice A.tab.a A.tab.n A.tab.c)).setCell ⟨ab, 3, none⟩ (.slice A.fns.a A.fns.n A.fns.c)).setCell ⟨bb, 0, none⟩ (.slice B.ext.a B.ext.n B.ext.c)).setCell ⟨bb, 1, none⟩ (.slice B.glo.a B.glo.n B.glo.c)).setCell ⟨bb, 2, none⟩ (.slice B.tab.a B.tab.n B.tab.c)).setCell ⟨bb, 3, none⟩ (.slice B.fns.a B.fns.n B.fns.c)) := CpM.four geb s6
          refine wpAnyH_ready (rs := [7]) (by kernel_rfl) (by simp) ?_
          refine AllReadyH.cons rfl (fun K hK => ?_) AllReadyH.nil
          go_simp
          refine hK.out _ _ s7 (fun _ => ?_)
          clear hK K
          replace hS := s7
          try simp only [Act.put, List.setIfInBounds_toArray, List.set_cons_zero, List.set_cons_succ]
          refine wpAnyH_done (by kernel_rfl) ?_ _
          refine NoPanic.normal ?_
          have FIN := hid (apart_fin (M := M) (W := W) q4 mA.out mB.out HB.out.eq HA.out.small HB.out.small HA.out.lies HB.out.lies wA.out BA.out BB.out SZ.out hne gea geb HLB.out)
          go_wp2_with fail
          go_meet
          case rel => exact ⟨ab, bb, A, B, rfl, rfl, FIN.out⟩
        · go_simp
          obtain ⟨w5, hw5⟩ : ∃ w5, w2.alloc (.cells #[.slice none 0 0, .slice none 0 0, .slice none 0 0, .slice none 0 0] 27) = w5 := ⟨_, rfl⟩
          obtain ⟨bb, hbb⟩ : ∃ bb, w2.heap.size = bb := ⟨_, rfl⟩
          have q5 : Below W.heap.size W w5 := by rw [← hw5]; exact new q2 _
          have L5 := hid (show Below w2.heap.size w2 w5 by rw [← hw5]; exact new (same _) _)
          have Z5 := hid (show w5.heap.size = w2.heap.size + 1 by rw [← hw5]; simp)
          have Xb := hid (show MBox w5 bb zeroM ∧ ∀ i, w5.frozen? ⟨bb, i, none⟩ = false by rw [← hw5, ← hbb]; exact ⟨MBox.alloc w2 zeroM, fun i => World.frozen?_alloc_new _ _ _ i⟩)
          rw [hw5, hbb]
          have Yb := hid hbb
          clear hw5 hbb
          refine hK.out _ _ q5 (fun _ => ?_)
          clear hK K
          replace hS := q5
          try simp only [Act.put, List.setIfInBounds_toArray, List.set_cons_zero, List.set_cons_succ]
          refine wpAnyH_ready (rs := [4]) (by kernel_rfl) (by simp) ?_
          refine AllReadyH.cons rfl (fun K hK => ?_) AllReadyH.nil
          go_simp
          obtain ⟨w6, hw6⟩ : ∃ w6, w5.alloc (.cells #[.slice none 0 0, .slice none 0 0, .slice none 0 0, .slice none 0 0] 27) = w6 := ⟨_, rfl⟩
          obtain ⟨ab, hab⟩ : ∃ ab, w5.heap.size = ab := ⟨_, rfl⟩
          have q6 : Below W.heap.size W w6 := by rw [← hw6]; exact new q5 _
          have L6 := hid (show Below w5.heap.size w5 w6 by rw [← hw6]; exact new (same _) _)
          have Z6 := hid (show w6.heap.size = w5.heap.size + 1 by rw [← hw6]; simp)
          have Xa := hid (show MBox w6 ab zeroM ∧ ∀ i, w6.frozen? ⟨ab, i, none⟩ = false by rw [← hw6, ← hab]; exact ⟨MBox.alloc w5 zeroM, fun i => World.frozen?_alloc_new _ _ _ i⟩)
          rw [hw6, hab]
          have Ya := hid hab
          clear hw6 hab
          refine hK.out _ _ q6 (fun _ => ?_)
          clear hK K
          replace hS := q6
          try simp only [Act.put, List.setIfInBounds_toArray, List.set_cons_zero, List.set_cons_succ]
          have za := Ya.out
          have zb := Yb.out
          have z0 := Z0.out
          have z1 := Z1.out
          have z2 := Z2.out
          have z5 := Z5.out
          have z6 := Z6.out
          have mA := hid (((HA.out.inm.on L2.out).on L5.out).on L6.out)
          have mB := hid ((HB.out.inm.on L5.out).on L6.out)
          have wA := hid (((HA.out.wr.on HA.out.inm L2.out).on (HA.out.inm.on L2.out) L5.out).on ((HA.out.inm.on L2.out).on L5.out) L6.out)
          obtain ⟨a0, a1, a2, a3⟩ := Xa.out.1
          obtain ⟨g0, g1, g2, g3⟩ := (Xb.out.1.on L6.out)
          have BA := hid Xa.out.1
          have BB := hid (Xb.out.1.on L6.out)
          have fa : ∀ i, w6.frozen? ⟨ab, i, none⟩ = false := fun i => by exact Xa.out.2 i
          have fb : ∀ i, w6.frozen? ⟨bb, i, none⟩ = false := fun i => by rw [L6.out.frozen (by show bb < _; omega)]; exact Xb.out.2 i
          have gea : W.heap.size ≤ ab := by omega
          have geb : W.heap.size ≤ bb := by omega
          have hne : ab ≠ bb := by omega
          have hne2 : bb ≠ ab := by omega
          have SZ := hid (show (w0.heap.size ≤ w1.heap.size ∧ W.heap.size ≤ w0.heap.size ∧ w1.heap.size ≤ w1.heap.size ∧ w2.heap.size ≤ w6.heap.size) ∧ (ab < w0.heap.size ∨ w1.heap.size ≤ ab) ∧ (ab < w1.heap.size ∨ w2.heap.size ≤ ab) ∧ (bb < w0.heap.size ∨ w1.heap.size ≤ bb) ∧ (bb < w1.heap.size ∨ w2.heap.size ≤ bb) ∧ ab < w6.heap.size ∧ bb < w6.heap.size by omega)
          have HLB := hid (show w1.heap.size ≤ w6.heap.size by omega)
          clear za zb z0 z1 z2 z5 z6
          have s6 : Below W.heap.size W ((((w6.setCell ⟨ab, 0, none⟩ (.slice A.ext.a A.ext.n A.ext.c)).setCell ⟨ab, 1, none⟩ (.slice A.glo.a A.glo.n A.glo.c)).setCell ⟨ab, 2, none⟩ (.slice A.tab.a A.tab.n A.tab.c)).setCell ⟨ab, 3, none⟩ (.slice A.fns.a A.fns.n A.fns.c)) := CpM.four gea q6
          refine wpAnyH_ready (rs := [6]) (by kernel_rfl) (by simp) ?_
          refine AllReadyH.cons rfl (fun K hK => ?_) AllReadyH.nil
          go_simp
          refine hK.out _ _ s6 (fun _ => ?_)
          clear hK K
          replace hS := s6
          try simp only [Act.put, List.setIfInBounds_toArray, List.set_cons_zero, List.set_cons_succ]
          have s7 : Below W.heap.size W ((((((((w6.setCell ⟨ab, 0, none⟩ (.slice A.ext.a A.ext.n A.ext.c)).setCell ⟨ab, 1, none⟩ (.slice A.glo.a A.glo.n A.glo.c)).setCell ⟨ab, 2, none⟩ (.slice A.tab.a A.tab.n A.tab.c)).setCell ⟨ab, 3, none⟩ (.slice A.fns.a A.fns.n A.fns.c)).setCell ⟨bb, 0, none⟩ (.slice B.ext.a B.ext.n B.ext.c)).setCell ⟨bb, 1, none⟩ (.slice B.glo.a B.glo.n B.glo.c)).setCell ⟨bb, 2, none⟩ (.slice B.tab.a B.tab.n B.tab.c)).setCell ⟨bb, 3, none⟩ (.slice B.fns.a B.fns.n B.fns.c)) := CpM.four geb s6
          refine wpAnyH_ready (rs := [7]) (by kernel_rfl) (by simp) ?_
          refine AllReadyH.cons rfl (fun K hK => ?_) AllReadyH.nil
          go_simp
          refine hK.out _ _ s7 (fun _ => ?_)
          clear hK K
          replace hS := s7
          try simp only [Act.put, List.setIfInBounds_toArray, List.set_cons_zero, List.set_cons_succ]
          refine wpAnyH_done (by kernel_rfl) ?_ _
          refine NoPanic.normal ?_
          have FIN := hid (apart_fin (M := M) (W := W) q6 mA.out mB.out HB.out.eq HA.out.small HB.out.small HA.out.lies HB.out.lies wA.out BA.out BB.out SZ.out hne gea geb HLB.out)
          go_wp2_with fail
          go_meet
          case rel => exact ⟨ab, bb, A, B, rfl, rfl, FIN.out⟩
      · go_simp
        obtain ⟨w7, hw7⟩ : ∃ w7, w1.alloc (.cells #[.slice none 0 0, .slice none 0 0, .slice none 0 0, .slice none 0 0] 27) = w7 := ⟨_, rfl⟩
        obtain ⟨ab, hab⟩ : ∃ ab, w1.heap.size = ab := ⟨_, rfl⟩
        have q7 : Below W.heap.size W w7 := by rw [← hw7]; exact new q1 _
        have L7 := hid (show Below w1.heap.size w1 w7 by rw [← hw7]; exact new (same _) _)
        have Z7 := hid (show w7.heap.size = w1.heap.size + 1 by rw [← hw7]; simp)
        have Xa := hid (show MBox w7 ab zeroM ∧ ∀ i, w7.frozen? ⟨ab, i, none⟩ = false by rw [← hw7, ← hab]; exact ⟨MBox.alloc w1 zeroM, fun i => World.frozen?_alloc_new _ _ _ i⟩)
        rw [hw7, hab]
        have Ya := hid hab
        clear hw7 hab
        refine hK.out _ _ q7 (fun _ => ?_)
        clear hK K
        replace hS := q7
        try simp only [Act.put, List.setIfInBounds_toArray, List.set_cons_zero, List.set_cons_succ]
        refine wpAnyH_ready (rs := [3, 5]) (by kernel_rfl) (by simp) ?_
        refine AllReadyH.cons rfl (fun K hK => ?_) (AllReadyH.cons rfl (fun K hK => ?_) AllReadyH.nil)
        · go_simp
          refine (copy_apart M _ (IM.out.on q7) SM.out).mono ?_
          rintro e w8 ⟨B, rfl, hB⟩
          have q8 : Below W.heap.size W w8 := View.more q7 hB.low
          have Z8 := hid hB.low.size
          have L8 := hid hB.low
          have HB := hid hB
          clear hB
          go_wp2_with fail
          refine hK.out _ _ q8 (fun _ => ?_)
          clear hK K
          replace hS := q8
          try simp only [Act.put, List.setIfInBounds_toArray, List.set_cons_zero, List.set_cons_succ]
          refine wpAnyH_ready (rs := [5]) (by kernel_rfl) (by simp) ?_
          refine AllReadyH.cons rfl (fun K hK => ?_) AllReadyH.nil
          go_simp
          obtain ⟨w9, hw9⟩ : ∃ w9, w8.alloc (.cells #[.slice none 0 0, .slice none 0 0, .slice none 0 0, .slice none 0 0] 27) = w9 := ⟨_, rfl⟩
          obtain ⟨bb, hbb⟩ : ∃ bb, w8.heap.size = bb := ⟨_, rfl⟩
          have q9 : Below W.heap.size W w9 := by rw [← hw9]; exact new q8 _
          have L9 := hid (show Below w8.heap.size w8 w9 by rw [← hw9]; exact new (same _) _)
          have Z9 := hid (show w9.heap.size = w8.heap.size + 1 by rw [← hw9]; simp)
          have Xb := hid (show MBox w9 bb zeroM ∧ ∀ i, w9.frozen? ⟨bb, i, none⟩ = false by rw [← hw9, ← hbb]; exact ⟨MBox.alloc w8 zeroM, fun i => World.frozen?_alloc_new _ _ _ i⟩)
          rw [hw9, hbb]
          have Yb := hid hbb
          clear hw9 hbb
          refine hK.out _ _ q9 (fun _ => ?_)
          clear hK K
          replace hS := q9
          try simp only [Act.put, List.setIfInBounds_toArray, List.set_cons_zero, List.set_cons_succ]
          have za := Ya.out
          have zb := Yb.out
          have z0 := Z0.out
          have z1 := Z1.out
          have z7 := Z7.out
          have z8 := Z8.out
          have z9 := Z9.out
          have mA := hid (((HA.out.inm.on L7.out).on L8.out).on L9.out)
          have mB := hid (HB.out.inm.on L9.out)
          have wA := hid (((HA.out.wr.on HA.out.inm L7.out).on (HA.out.inm.on L7.out) L8.out).on ((HA.out.inm.on L7.out).on L8.out) L9.out)
          obtain ⟨a0, a1, a2, a3⟩ := ((Xa.out.1.on L8.out).on L9.out)
          obtain ⟨g0, g1, g2, g3⟩ := Xb.out.1
          have BA := hid ((Xa.out.1.on L8.out).on L9.out)
          have BB := hid Xb.out.1
          have fa : ∀ i, w9.frozen? ⟨ab, i, none⟩ = false := fun i => by rw [L9.out.frozen (by show ab < _; omega), L8.out.frozen (by show ab < _; omega)]; exact Xa.out.2 i
          have fb : ∀ i, w9.frozen? ⟨bb, i, none⟩ = false := fun i => by exact Xb.out.2 i
          have gea : W.heap.size ≤ ab := by omega
          have geb : W.heap.size ≤ bb := by omega
          have hne : ab ≠ bb := by omega
          have hne2 : bb ≠ ab := by omega
          have SZ := hid (show (w0.heap.size ≤ w1.heap.size ∧ W.heap.size ≤ w0.heap.size ∧ w1.heap.size ≤ w7.heap.size ∧ w8.heap.size ≤ w9.heap.size) ∧ (ab < w0.heap.size ∨ w1.heap.size ≤ ab) ∧ (ab < w7.heap.size ∨ w8.heap.size ≤ ab) ∧ (bb < w0.heap.size ∨ w1.heap.size ≤ bb) ∧ (bb < w7.heap.size ∨ w8.heap.size ≤ bb) ∧ ab < w9.heap.size ∧ bb < w9.heap.size by omega)
          have HLB := hid (show w7.heap.size ≤ w9.heap.size by omega)
          clear za zb z0 z1 z7 z8 z9
          have s6 : Below W.heap.size W ((((w9.setCell ⟨ab, 0, none⟩ (.slice A.ext.a A.ext.n A.ext.c)).setCell ⟨ab, 1, none⟩ (.slice A.glo.a A.glo.n A.glo.c)).setCell ⟨ab, 2, none⟩ (.slice A.tab.a A.tab.n A.tab.c)).setCell ⟨ab, 3, none⟩ (.slice A.fns.a A.fns.n A.fns.c)) := CpM.four gea q9
          refine wpAnyH_ready (rs := [6]) (by kernel_rfl) (by simp) ?_
          refine AllReadyH.cons rfl (fun K hK => ?_) AllReadyH.nil
          go_simp
          refine hK.out _ _ s6 (fun _ => ?_)
          clear hK K
          replace hS := s6
          try simp only [Act.put, List.setIfInBounds_toArray, List.set_cons_zero, List.set_cons_succ]
          have s7 : Below W.heap.size W ((((((((w9.setCell ⟨ab, 0, none⟩ (.slice A.ext.a A.ext.n A.ext.c)).setCell ⟨ab, 1, none⟩ (.slice A.glo.a A.glo.n A.glo.c)).setCell ⟨ab, 2, none⟩ (.slice A.tab.a A.tab.n A.tab.c)).setCell ⟨ab, 3, none⟩ (.slice A.fns.a A.fns.n A.fns.c)).setCell ⟨bb, 0, none⟩ (.slice B.ext.a B.ext.n B.ext.c)).setCell ⟨bb, 1, none⟩ (.slice B.glo.a B.glo.n B.glo.c)).setCell ⟨bb, 2, none⟩ (.slice B.tab.a B.tab.n B.tab.c)).setCell ⟨bb, 3, none⟩ (.slice B.fns.a B.fns.n B.fns.c)) := CpM.four geb s6
          refine wpAnyH_ready (rs := [7]) (by kernel_rfl) (by simp) ?_
          refine AllReadyH.cons rfl (fun K hK => ?_) AllReadyH.nil
          go_simp
          refine hK.out _ _ s7 (fun _ => ?_)
          clear hK K
          replace hS := s7
          try simp only [Act.put, List.setIfInBounds_toArray, List.set_cons_zero, List.set_cons_succ]
          refine wpAnyH_done (by kernel_rfl) ?_ _
          refine NoPanic.normal ?_
          have FIN := hid (apart_fin (M := M) (W := W) q9 mA.out mB.out HB.out.eq HA.out.small HB.out.small HA.out.lies HB.out.lies wA.out BA.out BB.out SZ.out hne gea geb HLB.out)
          go_wp2_with fail
          go_meet
          case rel => exact ⟨ab, bb, A, B, rfl, rfl, FIN.out⟩
        · go_simp
          obtain ⟨w10, hw10⟩ : ∃ w10, w7.alloc (.cells #[.slice none 0 0, .slice none 0 0, .slice none 0 0, .slice none 0 0] 27) = w10 := ⟨_, rfl⟩
          obtain ⟨bb, hbb⟩ : ∃ bb, w7.heap.size = bb := ⟨_, rfl⟩
          have q10 : Below W.heap.size W w10 := by rw [← hw10]; exact new q7 _
          have L10 := hid (show Below w7.heap.size w7 w10 by rw [← hw10]; exact new (same _) _)
          have Z10 := hid (show w10.heap.size = w7.heap.size + 1 by rw [← hw10]; simp)
          have Xb := hid (show MBox w10 bb zeroM ∧ ∀ i, w10.frozen? ⟨bb, i, none⟩ = false by rw [← hw10, ← hbb]; exact ⟨MBox.alloc w7 zeroM, fun i => World.frozen?_alloc_new _ _ _ i⟩)
          rw [hw10, hbb]
          have Yb := hid hbb
          clear hw10 hbb
          refine hK.out _ _ q10 (fun _ => ?_)
          clear hK K
          replace hS := q10
          try simp only [Act.put, List.setIfInBounds_toArray, List.set_cons_zero, List.set_cons_succ]
          refine wpAnyH_ready (rs := [3]) (by kernel_rfl) (by simp) ?_
          refine AllReadyH.cons rfl (fun K hK => ?_) AllReadyH.nil
          go_simp
          refine (copy_apart M _ (IM.out.on q10) SM.out).mono ?_
          rintro e w11 ⟨B, rfl, hB⟩
          have q11 : Below W.heap.size W w11 := View.more q10 hB.low
          have Z11 := hid hB.low.size
          have L11 := hid hB.low
          have HB := hid hB
          clear hB
          go_wp2_with fail
          refine hK.out _ _ q11 (fun _ => ?_)
          clear hK K
          replace hS := q11
          try simp only [Act.put, List.setIfInBounds_toArray, List.set_cons_zero, List.set_cons_succ]
          have za := Ya.out
          have zb := Yb.out
          have z0 := Z0.out
          have z1 := Z1.out
          have z7 := Z7.out
          have z10 := Z10.out
          have z11 := Z11.out
          have mA := hid (((HA.out.inm.on L7.out).on L10.out).on L11.out)
          have mB := hid HB.out.inm
          have wA := hid (((HA.out.wr.on HA.out.inm L7.out).on (HA.out.inm.on L7.out) L10.out).on ((HA.out.inm.on L7.out).on L10.out) L11.out)
          obtain ⟨a0, a1, a2, a3⟩ := ((Xa.out.1.on L10.out).on L11.out)
          obtain ⟨g0, g1, g2, g3⟩ := (Xb.out.1.on L11.out)
          have BA := hid ((Xa.out.1.on L10.out).on L11.out)
          have BB := hid (Xb.out.1.on L11.out)
          have fa : ∀ i, w11.frozen? ⟨ab, i, none⟩ = false := fun i => by rw [L11.out.frozen (by show ab < _; omega), L10.out.frozen (by show ab < _; omega)]; exact Xa.out.2 i
          have fb : ∀ i, w11.frozen? ⟨bb, i, none⟩ = false := fun i => by rw [L11.out.frozen (by show bb < _; omega)]; exact Xb.out.2 i
          have gea : W.heap.size ≤ ab := by omega
          have geb : W.heap.size ≤ bb := by omega
          have hne : ab ≠ bb := by omega
          have hne2 : bb ≠ ab := by omega
          have SZ := hid (show (w0.heap.size ≤ w1.heap.size ∧ W.heap.size ≤ w0.heap.size ∧ w1.heap.size ≤ w10.heap.size ∧ w11.heap.size ≤ w11.heap.size) ∧ (ab < w0.heap.size ∨ w1.heap.size ≤ ab) ∧ (ab < w10.heap.size ∨ w11.heap.size ≤ ab) ∧ (bb < w0.heap.size ∨ w1.heap.size ≤ bb) ∧ (bb < w10.heap.size ∨ w11.heap.size ≤ bb) ∧ ab < w11.heap.size ∧ bb < w11.heap.size by omega)
          have HLB := hid (show w10.heap.size ≤ w11.heap.size by omega)
          clear za zb z0 z1 z7 z10 z11
          have s6 : Below W.heap.size W ((((w11.setCell ⟨ab, 0, none⟩ (.slice A.ext.a A.ext.n A.ext.c)).setCell ⟨ab, 1, none⟩ (.slice A.glo.a A.glo.n A.glo.c)).setCell ⟨ab, 2, none⟩ (.slice A.tab.a A.tab.n A.tab.c)).setCell ⟨ab, 3, none⟩ (.slice A.fns.a A.fns.n A.fns.c)) := CpM.four gea q11
          refine wpAnyH_ready (rs := [6]) (by kernel_rfl) (by simp) ?_
          refine AllReadyH.cons rfl (fun K hK => ?_) AllReadyH.nil
          go_simp
          refine hK.out _ _ s6 (fun _ => ?_)
          clear hK K
          replace hS := s6
          try simp only [Act.put, List.setIfInBounds_toArray, List.set_cons_zero, List.set_cons_succ]
          have s7 : Below W.heap.size W ((((((((w11.setCell ⟨ab, 0, none⟩ (.slice A.ext.a A.ext.n A.ext.c)).setCell ⟨ab, 1, none⟩ (.slice A.glo.a A.glo.n A.glo.c)).setCell ⟨ab, 2, none⟩ (.slice A.tab.a A.tab.n A.tab.c)).setCell ⟨ab, 3, none⟩ (.slice A.fns.a A.fns.n A.fns.c)).setCell ⟨bb, 0, none⟩ (.slice B.ext.a B.ext.n B.ext.c)).setCell ⟨bb, 1, none⟩ (.slice B.glo.a B.glo.n B.glo.c)).setCell ⟨bb, 2, none⟩ (.slice B.tab.a B.tab.n B.tab.c)).setCell ⟨bb, 3, none⟩ (.slice B.fns.a B.fns.n B.fns.c)) := CpM.four geb s6
          refine wpAnyH_ready (rs := [7]) (by kernel_rfl) (by simp) ?_
          refine AllReadyH.cons rfl (fun K hK => ?_) AllReadyH.nil
          go_simp
          refine hK.out _ _ s7 (fun _ => ?_)
          clear hK K
          replace hS := s7
          try simp only [Act.put, List.setIfInBounds_toArray, List.set_cons_zero, List.set_cons_succ]
          refine wpAnyH_done (by kernel_rfl) ?_ _
          refine NoPanic.normal ?_
          have FIN := hid (apart_fin (M := M) (W := W) q11 mA.out mB.out HB.out.eq HA.out.small HB.out.small HA.out.lies HB.out.lies wA.out BA.out BB.out SZ.out hne gea geb HLB.out)
          go_wp2_with fail
          go_meet
          case rel => exact ⟨ab, bb, A, B, rfl, rfl, FIN.out⟩
      · go_simp
        obtain ⟨w12, hw12⟩ : ∃ w12, w1.alloc (.cells #[.slice none 0 0, .slice none 0 0, .slice none 0 0, .slice none 0 0] 27) = w12 := ⟨_, rfl⟩
        obtain ⟨bb, hbb⟩ : ∃ bb, w1.heap.size = bb := ⟨_, rfl⟩
        have q12 : Below W.heap.size W w12 := by rw [← hw12]; exact new q1 _
        have L12 := hid (show Below w1.heap.size w1 w12 by rw [← hw12]; exact new (same _) _)
        have Z12 := hid (show w12.heap.size = w1.heap.size + 1 by rw [← hw12]; simp)
        have Xb := hid (show MBox w12 bb zeroM ∧ ∀ i, w12.frozen? ⟨bb, i, none⟩ = false by rw [← hw12, ← hbb]; exact ⟨MBox.alloc w1 zeroM, fun i => World.frozen?_alloc_new _ _ _ i⟩)
        rw [hw12, hbb]
        have Yb := hid hbb
        clear hw12 hbb
        refine hK.out _ _ q12 (fun _ => ?_)
        clear hK K
        replace hS := q12
        try simp only [Act.put, List.setIfInBounds_toArray, List.set_cons_zero, List.set_cons_succ]
        refine wpAnyH_ready (rs := [3, 4]) (by kernel_rfl) (by simp) ?_
        refine AllReadyH.cons rfl (fun K hK => ?_) (AllReadyH.cons rfl (fun K hK => ?_) AllReadyH.nil)
        · go_simp
          refine (copy_apart M _ (IM.out.on q12) SM.out).mono ?_
          rintro e w13 ⟨B, rfl, hB⟩
          have q13 : Below W.heap.size W w13 := View.more q12 hB.low
          have Z13 := hid hB.low.size
          have L13 := hid hB.low
          have HB := hid hB
          clear hB
          go_wp2_with fail
          refine hK.out _ _ q13 (fun _ => ?_)
          clear hK K
          replace hS := q13
          try simp only [Act.put, List.setIfInBounds_toArray, List.set_cons_zero, List.set_cons_succ]
          refine wpAnyH_ready (rs := [4]) (by kernel_rfl) (by simp) ?_
          refine AllReadyH.cons rfl (fun K hK => ?_) AllReadyH.nil
          go_simp
          obtain ⟨w14, hw14⟩ : ∃ w14, w13.alloc (.cells #[.slice none 0 0, .slice none 0 0, .slice none 0 0, .slice none 0 0] 27) = w14 := ⟨_, rfl⟩
          obtain ⟨ab, hab⟩ : ∃ ab, w13.heap.size = ab := ⟨_, rfl⟩
          have q14 : Below W.heap.size W w14 := by rw [← hw14]; exact new q13 _
          have L14 := hid (show Below w13.heap.size w13 w14 by rw [← hw14]; exact new (same _) _)
          have Z14 := hid (show w14.heap.size = w13.heap.size + 1 by rw [← hw14]; simp)
          have Xa := hid (show MBox w14 ab zeroM ∧ ∀ i, w14.frozen? ⟨ab, i, none⟩ = false by rw [← hw14, ← hab]; exact ⟨MBox.alloc w13 zeroM, fun i => World.frozen?_alloc_new _ _ _ i⟩)
          rw [hw14, hab]
          have Ya := hid hab
          clear hw14 hab
          refine hK.out _ _ q14 (fun _ => ?_)
          clear hK K
          replace hS := q14
          try simp only [Act.put, List.setIfInBounds_toArray, List.set_cons_zero, List.set_cons_succ]
          have za := Ya.out
          have zb := Yb.out
          have z0 := Z0.out
          have z1 := Z1.out
          have z12 := Z12.out
          have z13 := Z13.out
          have z14 := Z14.out
          have mA := hid (((HA.out.inm.on L12.out).on L13.out).on L14.out)
          have mB := hid (HB.out.inm.on L14.out)
          have wA := hid (((HA.out.wr.on HA.out.inm L12.out).on (HA.out.inm.on L12.out) L13.out).on ((HA.out.inm.on L12.out).on L13.out) L14.out)
          obtain ⟨a0, a1, a2, a3⟩ := Xa.out.1
          obtain ⟨g0, g1, g2, g3⟩ := ((Xb.out.1.on L13.out).on L14.out)
          have BA := hid Xa.out.1
          have BB := hid ((Xb.out.1.on L13.out).on L14.out)
          have fa : ∀ i, w14.frozen? ⟨ab, i, none⟩ = false := fun i => by exact Xa.out.2 i
          have fb : ∀ i, w14.frozen? ⟨bb, i, none⟩ = false := fun i => by rw [L14.out.frozen (by show bb < _; omega), L13.out.frozen (by show bb < _; omega)]; exact Xb.out.2 i
          have gea : W.heap.size ≤ ab := by omega
          have geb : W.heap.size ≤ bb := by omega
          have hne : ab ≠ bb := by omega
          have hne2 : bb ≠ ab := by omega
          have SZ := hid (show (w0.heap.size ≤ w1.heap.size ∧ W.heap.size ≤ w0.heap.size ∧ w1.heap.size ≤ w12.heap.size ∧ w13.heap.size ≤ w14.heap.size) ∧ (ab < w0.heap.size ∨ w1.heap.size ≤ ab) ∧ (ab < w12.heap.size ∨ w13.heap.size ≤ ab) ∧ (bb < w0.heap.size ∨ w1.heap.size ≤ bb) ∧ (bb < w12.heap.size ∨ w13.heap.size ≤ bb) ∧ ab < w14.heap.size ∧ bb < w14.heap.size by omega)
          have HLB := hid (show w12.heap.size ≤ w14.heap.size by omega)
          clear za zb z0 z1 z12 z13 z14
          have s6 : Below W.heap.size W ((((w14.setCell ⟨ab, 0, none⟩ (.slice A.ext.a A.ext.n A.ext.c)).setCell ⟨ab, 1, none⟩ (.slice A.glo.a A.glo.n A.glo.c)).setCell ⟨ab, 2, none⟩ (.slice A.tab.a A.tab.n A.tab.c)).setCell ⟨ab, 3, none⟩ (.slice A.fns.a A.fns.n A.fns.c)) := CpM.four gea q14
          refine wpAnyH_ready (rs := [6]) (by kernel_rfl) (by simp) ?_
          refine AllReadyH.cons rfl (fun K hK => ?_) AllReadyH.nil
          go_simp
          refine hK.out _ _ s6 (fun _ => ?_)
          clear hK K
          replace hS := s6
          try simp only [Act.put, List.setIfInBounds_toArray, List.set_cons_zero, List.set_cons_succ]
          have s7 : Below W.heap.size W ((((((((w14.setCell ⟨ab, 0, none⟩ (.slice A.ext.a A.ext.n A.ext.c)).setCell ⟨ab, 1, none⟩ (.slice A.glo.a A.glo.n A.glo.c)).setCell ⟨ab, 2, none⟩ (.slice A.tab.a A.tab.n A.tab.c)).setCell ⟨ab, 3, none⟩ (.slice A.fns.a A.fns.n A.fns.c)).setCell ⟨bb, 0, none⟩ (.slice B.ext.a B.ext.n B.ext.c)).setCell ⟨bb, 1, none⟩ (.slice B.glo.a B.glo.n B.glo.c)).setCell ⟨bb, 2, none⟩ (.slice B.tab.a B.tab.n B.tab.c)).setCell ⟨bb, 3, none⟩ (.slice B.fns.a B.fns.n B.fns.c)) := CpM.four geb s6
          refine wpAnyH_ready (rs := [7]) (by kernel_rfl) (by simp) ?_
          refine AllReadyH.cons rfl (fun K hK => ?_) AllReadyH.nil
          go_simp
          refine hK.out _ _ s7 (fun _ => ?_)
          clear hK K
          replace hS := s7
          try simp only [Act.put, List.setIfInBounds_toArray, List.set_cons_zero, List.set_cons_succ]
          refine wpAnyH_done (by kernel_rfl) ?_ _
          refine NoPanic.normal ?_
          have FIN := hid (apart_fin (M := M) (W := W) q14 mA.out mB.out HB.out.eq HA.out.small HB.out.small HA.out.lies HB.out.lies wA.out BA.out BB.out SZ.out hne gea geb HLB.out)
          go_wp2_with fail
          go_meet
          case rel => exact ⟨ab, bb, A, B, rfl, rfl, FIN.out⟩
        · go_simp
          obtain ⟨w15, hw15⟩ : ∃ w15, w12.alloc (.cells #[.slice none 0 0, .slice none 0 0, .slice none 0 0, .slice none 0 0] 27) = w15 := ⟨_, rfl⟩
          obtain ⟨ab, hab⟩ : ∃ ab, w12.heap.size = ab := ⟨_, rfl⟩
          have q15 : Below W.heap.size W w15 := by rw [← hw15]; exact new q12 _
          have L15 := hid (show Below w12.heap.size w12 w15 by rw [← hw15]; exact new (same _) _)
          have Z15 := hid (show w15.heap.size = w12.heap.size + 1 by rw [← hw15]; simp)
          have Xa := hid (show MBox w15 ab zeroM ∧ ∀ i, w15.frozen? ⟨ab, i, none⟩ = false by rw [← hw15, ← hab]; exact ⟨MBox.alloc w12 zeroM, fun i => World.frozen?_alloc_new _ _ _ i⟩)
          rw [hw15, hab]
          have Ya := hid hab
          clear hw15 hab
          refine hK.out _ _ q15 (fun _ => ?_)
          clear hK K
          replace hS := q15
          try simp only [Act.put, List.setIfInBounds_toArray, List.set_cons_zero, List.set_cons_succ]
          refine wpAnyH_ready (rs := [3]) (by kernel_rfl) (by simp) ?_
          refine AllReadyH.cons rfl (fun K hK => ?_) AllReadyH.nil
          go_simp
          refine (copy_apart M _ (IM.out.on q15) SM.out).mono ?_
          rintro e w16 ⟨B, rfl, hB⟩
          have q16 : Below W.heap.size W w16 := View.more q15 hB.low
          have Z16 := hid hB.low.size
          have L16 := hid hB.low
          have HB := hid hB
          clear hB
          go_wp2_with fail
          refine hK.out _ _ q16 (fun _ => ?_)
          clear hK K
          replace hS := q16
          try simp only [Act.put, List.setIfInBounds_toArray, List.set_cons_zero, List.set_cons_succ]
          have za := Ya.out
          have zb := Yb.out
          have z0 := Z0.out
          have z1 := Z1.out
          have z12 := Z12.out
          have z15 := Z15.out
          have z16 := Z16.out
          have mA := hid (((HA.out.inm.on L12.out).on L15.out).on L16.out)
          have mB := hid HB.out.inm
          have wA := hid (((HA.out.wr.on HA.out.inm L12.out).on (HA.out.inm.on L12.out) L15.out).on ((HA.out.inm.on L12.out).on L15.out) L16.out)
          obtain ⟨a0, a1, a2, a3⟩ := (Xa.out.1.on L16.out)
          obtain ⟨g0, g1, g2, g3⟩ := ((Xb.out.1.on L15.out).on L16.out)
          have BA := hid (Xa.out.1.on L16.out)
          have BB := hid ((Xb.out.1.on L15.out).on L16.out)
          have fa : ∀ i, w16.frozen? ⟨ab, i, none⟩ = false := fun i => by rw [L16.out.frozen (by show ab < _; omega)]; exact Xa.out.2 i
          have fb : ∀ i, w16.frozen? ⟨bb, i, none⟩ = false := fun i => by rw [L16.out.frozen (by show bb < _; omega), L15.out.frozen (by show bb < _; omega)]; exact Xb.out.2 i
          have gea : W.heap.size ≤ ab := by omega
          have geb : W.heap.size ≤ bb := by omega
          have hne : ab ≠ bb := by omega
          have hne2 : bb ≠ ab := by omega
          have SZ := hid (show (w0.heap.size ≤ w1.heap.size ∧ W.heap.size ≤ w0.heap.size ∧ w1.heap.size ≤ w15.heap.size ∧ w16.heap.size ≤ w16.heap.size) ∧ (ab < w0.heap.size ∨ w1.heap.size ≤ ab) ∧ (ab < w15.heap.size ∨ w16.heap.size ≤ ab) ∧ (bb < w0.heap.size ∨ w1.heap.size ≤ bb) ∧ (bb < w15.heap.size ∨ w16.heap.size ≤ bb) ∧ ab < w16.heap.size ∧ bb < w16.heap.size by omega)
          have HLB := hid (show w15.heap.size ≤ w16.heap.size by omega)
          clear za zb z0 z1 z12 z15 z16
          have s6 : Below W.heap.size W ((((w16.setCell ⟨ab, 0, none⟩ (.slice A.ext.a A.ext.n A.ext.c)).setCell ⟨ab, 1, none⟩ (.slice A.glo.a A.glo.n A.glo.c)).setCell ⟨ab, 2, none⟩ (.slice A.tab.a A.tab.n A.tab.c)).setCell ⟨ab, 3, none⟩ (.slice A.fns.a A.fns.n A.fns.c)) := CpM.four gea q16
          refine wpAnyH_ready (rs := [6]) (by kernel_rfl) (by simp) ?_
          refine AllReadyH.cons rfl (fun K hK => ?_) AllReadyH.nil
          go_simp
          refine hK.out _ _ s6 (fun _ => ?_)
          clear hK K
          replace hS := s6
          try simp only [Act.put, List.setIfInBounds_toArray, List.set_cons_zero, List.set_cons_succ]
          have s7 : Below W.heap.size W ((((((((w16.setCell ⟨ab, 0, none⟩ (.slice A.ext.a A.ext.n A.ext.c)).setCell ⟨ab, 1, none⟩ (.slice A.glo.a A.glo.n A.glo.c)).setCell ⟨ab, 2, none⟩ (.slice A.tab.a A.tab.n A.tab.c)).setCell ⟨ab, 3, none⟩ (.slice A.fns.a A.fns.n A.fns.c)).setCell ⟨bb, 0, none⟩ (.slice B.ext.a B.ext.n B.ext.c)).setCell ⟨bb, 1, none⟩ (.slice B.glo.a B.glo.n B.glo.c)).setCell ⟨bb, 2, none⟩ (.slice B.tab.a B.tab.n B.tab.c)).setCell ⟨bb, 3, none⟩ (.slice B.fns.a B.fns.n B.fns.c)) := CpM.four geb s6
          refine wpAnyH_ready (rs := [7]) (by kernel_rfl) (by simp) ?_
          refine AllReadyH.cons rfl (fun K hK => ?_) AllReadyH.nil
          go_simp
          refine hK.out _ _ s7 (fun _ => ?_)
          clear hK K
          replace hS := s7
          try simp only [Act.put, List.setIfInBounds_toArray, List.set_cons_zero, List.set_cons_succ]
          refine wpAnyH_done (by kernel_rfl) ?_ _
          refine NoPanic.normal ?_
          have FIN := hid (apart_fin (M := M) (W := W) q16 mA.out mB.out HB.out.eq HA.out.small HB.out.small HA.out.lies HB.out.lies wA.out BA.out BB.out SZ.out hne gea geb HLB.out)
          go_wp2_with fail
          go_meet
          case rel => exact ⟨ab, bb, A, B, rfl, rfl, FIN.out⟩
    · go_simp
      obtain ⟨w17, hw17⟩ : ∃ w17, w0.alloc (.cells #[.slice none 0 0, .slice none 0 0, .slice none 0 0, .slice none 0 0] 27) = w17 := ⟨_, rfl⟩
      obtain ⟨ab, hab⟩ : ∃ ab, w0.heap.size = ab := ⟨_, rfl⟩
      have q17 : Below W.heap.size W w17 := by rw [← hw17]; exact new q0 _
      have L17 := hid (show Below w0.heap.size w0 w17 by rw [← hw17]; exact new (same _) _)
      have Z17 := hid (show w17.heap.size = w0.heap.size + 1 by rw [← hw17]; simp)
      have Xa := hid (show MBox w17 ab zeroM ∧ ∀ i, w17.frozen? ⟨ab, i, none⟩ = false by rw [← hw17, ← hab]; exact ⟨MBox.alloc w0 zeroM, fun i => World.frozen?_alloc_new _ _ _ i⟩)
      rw [hw17, hab]
      have Ya := hid hab
      clear hw17 hab
      refine hK.out _ _ q17 (fun _ => ?_)
      clear hK K
      replace hS := q17
      try simp only [Act.put, List.setIfInBounds_toArray, List.set_cons_zero, List.set_cons_succ]
      refine wpAnyH_ready (rs := [1, 5]) (by kernel_rfl) (by simp) ?_
      refine AllReadyH.cons rfl (fun K hK => ?_) (AllReadyH.cons rfl (fun K hK => ?_) AllReadyH.nil)
      · go_simp
        refine (copy_apart M _ (IM.out.on q17) SM.out).mono ?_
        rintro e w18 ⟨A, rfl, hA⟩
        have q18 : Below W.heap.size W w18 := View.more q17 hA.low
        have Z18 := hid hA.low.size
        have L18 := hid hA.low
        have HA := hid hA
        clear hA
        go_wp2_with fail
        refine hK.out _ _ q18 (fun _ => ?_)
        clear hK K
        replace hS := q18
        try simp only [Act.put, List.setIfInBounds_toArray, List.set_cons_zero, List.set_cons_succ]
        refine wpAnyH_ready (rs := [3, 5]) (by kernel_rfl) (by simp) ?_
        refine AllReadyH.cons rfl (fun K hK => ?_) (AllReadyH.cons rfl (fun K hK => ?_) AllReadyH.nil)
        · go_simp
          refine (copy_apart M _ (IM.out.on q18) SM.out).mono ?_
          rintro e w19 ⟨B, rfl, hB⟩
          have q19 : Below W.heap.size W w19 := View.more q18 hB.low
          have Z19 := hid hB.low.size
          have L19 := hid hB.low
          have HB := hid hB
          clear hB
          go_wp2_with fail
          refine hK.out _ _ q19 (fun _ => ?_)
          clear hK K
          replace hS := q19
          try simp only [Act.put, List.setIfInBounds_toArray, List.set_cons_zero, List.set_cons_succ]
          refine wpAnyH_ready (rs := [5]) (by kernel_rfl) (by simp) ?_
          refine AllReadyH.cons rfl (fun K hK => ?_) AllReadyH.nil
          go_simp
          obtain ⟨w20, hw20⟩ : ∃ w20, w19.alloc (.cells #[.slice none 0 0, .slice none 0 0, .slice none 0 0, .slice none 0 0] 27) = w20 := ⟨_, rfl⟩
          obtain ⟨bb, hbb⟩ : ∃ bb, w19.heap.size = bb := ⟨_, rfl⟩
          have q20 : Below W.heap.size W w20 := by rw [← hw20]; exact new q19 _
          have L20 := hid (show Below w19.heap.size w19 w20 by rw [← hw20]; exact new (same _) _)
          have Z20 := hid (show w20.heap.size = w19.heap.size + 1 by rw [← hw20]; simp)
          have Xb := hid (show MBox w20 bb zeroM ∧ ∀ i, w20.frozen? ⟨bb, i, none⟩ = false by rw [← hw20, ← hbb]; exact ⟨MBox.alloc w19 zeroM, fun i => World.frozen?_alloc_new _ _ _ i⟩)
          rw [hw20, hbb]
          have Yb := hid hbb
          clear hw20 hbb
          refine hK.out _ _ q20 (fun _ => ?_)
          clear hK K
          replace hS := q20
          try simp only [Act.put, List.setIfInBounds_toArray, List.set_cons_zero, List.set_cons_succ]
          have za := Ya.out
          have zb := Yb.out
          have z0 := Z0.out
          have z17 := Z17.out
          have z18 := Z18.out
          have z19 := Z19.out
          have z20 := Z20.out
          have mA := hid ((HA.out.inm.on L19.out).on L20.out)
          have mB := hid (HB.out.inm.on L20.out)
          have wA := hid ((HA.out.wr.on HA.out.inm L19.out).on (HA.out.inm.on L19.out) L20.out)
          obtain ⟨a0, a1, a2, a3⟩ := (((Xa.out.1.on L18.out).on L19.out).on L20.out)
          obtain ⟨g0, g1, g2, g3⟩ := Xb.out.1
          have BA := hid (((Xa.out.1.on L18.out).on L19.out).on L20.out)
          have BB := hid Xb.out.1
          have fa : ∀ i, w20.frozen? ⟨ab, i, none⟩ = false := fun i => by rw [L20.out.frozen (by show ab < _; omega), L19.out.frozen (by show ab < _; omega), L18.out.frozen (by show ab < _; omega)]; exact Xa.out.2 i
          have fb : ∀ i, w20.frozen? ⟨bb, i, none⟩ = false := fun i => by exact Xb.out.2 i
          have gea : W.heap.size ≤ ab := by omega
          have geb : W.heap.size ≤ bb := by omega
          have hne : ab ≠ bb := by omega
          have hne2 : bb ≠ ab := by omega
          have SZ := hid (show (w17.heap.size ≤ w18.heap.size ∧ W.heap.size ≤ w17.heap.size ∧ w18.heap.size ≤ w18.heap.size ∧ w19.heap.size ≤ w20.heap.size) ∧ (ab < w17.heap.size ∨ w18.heap.size ≤ ab) ∧ (ab < w18.heap.size ∨ w19.heap.size ≤ ab) ∧ (bb < w17.heap.size ∨ w18.heap.size ≤ bb) ∧ (bb < w18.heap.size ∨ w19.heap.size ≤ bb) ∧ ab < w20.heap.size ∧ bb < w20.heap.size by omega)
          have HLB := hid (show w18.heap.size ≤ w20.heap.size by omega)
          clear za zb z0 z17 z18 z19 z20
          have s6 : Below W.heap.size W ((((w20.setCell ⟨ab, 0, none⟩ (.slice A.ext.a A.ext.n A.ext.c)).setCell ⟨ab, 1, none⟩ (.slice A.glo.a A.glo.n A.glo.c)).setCell ⟨ab, 2, none⟩ (.slice A.tab.a A.tab.n A.tab.c)).setCell ⟨ab, 3, none⟩ (.slice A.fns.a A.fns.n A.fns.c)) := CpM.four gea q20
          refine wpAnyH_ready (rs := [6]) (by kernel_rfl) (by simp) ?_
          refine AllReadyH.cons rfl (fun K hK => ?_) AllReadyH.nil
          go_simp
          refine hK.out _ _ s6 (fun _ => ?_)
          clear hK K
          replace hS := s6
          try simp only [Act.put, List.setIfInBounds_toArray, List.set_cons_zero, List.set_cons_succ]
          have s7 : Below W.heap.size W ((((((((w20.setCell ⟨ab, 0, none⟩ (.slice A.ext.a A.ext.n A.ext.c)).setCell ⟨ab, 1, none⟩ (.slice A.glo.a A.glo.n A.glo.c)).setCell ⟨ab, 2, none⟩ (.slice A.tab.a A.tab.n A.tab.c)).setCell ⟨ab, 3, none⟩ (.slice A.fns.a A.fns.n A.fns.c)).setCell ⟨bb, 0, none⟩ (.slice B.ext.a B.ext.n B.ext.c)).setCell ⟨bb, 1, none⟩ (.slice B.glo.a B.glo.n B.glo.c)).setCell ⟨bb, 2, none⟩ (.slice B.tab.a B.tab.n B.tab.c)).setCell ⟨bb, 3, none⟩ (.slice B.fns.a B.fns.n B.fns.c)) := CpM.four geb s6
          refine wpAnyH_ready (rs := [7]) (by kernel_rfl) (by simp) ?_
          refine AllReadyH.cons rfl (fun K hK => ?_) AllReadyH.nil
          go_simp
          refine hK.out _ _ s7 (fun _ => ?_)
          clear hK K
          replace hS := s7
          try simp only [Act.put, List.setIfInBounds_toArray, List.set_cons_zero, List.set_cons_succ]
          refine wpAnyH_done (by kernel_rfl) ?_ _
          refine NoPanic.normal ?_
          have FIN := hid (apart_fin (M := M) (W := W) q20 mA.out mB.out HB.out.eq HA.out.small HB.out.small HA.out.lies HB.out.lies wA.out BA.out BB.out SZ.out hne gea geb HLB.out)
          go_wp2_with fail
          go_meet
          case rel => exact ⟨ab, bb, A, B, rfl, rfl, FIN.out⟩
        · go_simp
          obtain ⟨w21, hw21⟩ : ∃ w21, w18.alloc (.cells #[.slice none 0 0, .slice none 0 0, .slice none 0 0, .slice none 0 0] 27) = w21 := ⟨_, rfl⟩
          obtain ⟨bb, hbb⟩ : ∃ bb, w18.heap.size = bb := ⟨_, rfl⟩
          have q21 : Below W.heap.size W w21 := by rw [← hw21]; exact new q18 _
          have L21 := hid (show Below w18.heap.size w18 w21 by rw [← hw21]; exact new (same _) _)
          have Z21 := hid (show w21.heap.size = w18.heap.size + 1 by rw [← hw21]; simp)
          have Xb := hid (show MBox w21 bb zeroM ∧ ∀ i, w21.frozen? ⟨bb, i, none⟩ = false by rw [← hw21, ← hbb]; exact ⟨MBox.alloc w18 zeroM, fun i => World.frozen?_alloc_new _ _ _ i⟩)
          rw [hw21, hbb]
          have Yb := hid hbb
          clear hw21 hbb
          refine hK.out _ _ q21 (fun _ => ?_)
          clear hK K
          replace hS := q21
          try simp only [Act.put, List.setIfInBounds_toArray, List.set_cons_zero, List.set_cons_succ]
          refine wpAnyH_ready (rs := [3]) (by kernel_rfl) (by simp) ?_
          refine AllReadyH.cons rfl (fun K hK => ?_) AllReadyH.nil
          go_simp
          refine (copy_apart M _ (IM.out.on q21) SM.out).mono ?_
          rintro e w22 ⟨B, rfl, hB⟩
          have q22 : Below W.heap.size W w22 := View.more q21 hB.low
          have Z22 := hid hB.low.size
          have L22 := hid hB.low
          have HB := hid hB
          clear hB
          go_wp2_with fail
          refine hK.out _ _ q22 (fun _ => ?_)
          clear hK K
          replace hS := q22
          try simp only [Act.put, List.setIfInBounds_toArray, List.set_cons_zero, List.set_cons_succ]
          have za := Ya.out
          have zb := Yb.out
          have z0 := Z0.out
          have z17 := Z17.out
          have z18 := Z18.out
          have z21 := Z21.out
          have z22 := Z22.out
          have mA := hid ((HA.out.inm.on L21.out).on L22.out)
          have mB := hid HB.out.inm
          have wA := hid ((HA.out.wr.on HA.out.inm L21.out).on (HA.out.inm.on L21.out) L22.out)
          obtain ⟨a0, a1, a2, a3⟩ := (((Xa.out.1.on L18.out).on L21.out).on L22.out)
          obtain ⟨g0, g1, g2, g3⟩ := (Xb.out.1.on L22.out)
          have BA := hid (((Xa.out.1.on L18.out).on L21.out).on L22.out)
          have BB := hid (Xb.out.1.on L22.out)
          have fa : ∀ i, w22.frozen? ⟨ab, i, none⟩ = false := fun i => by rw [L22.out.frozen (by show ab < _; omega), L21.out.frozen (by show ab < _; omega), L18.out.frozen (by show ab < _; omega)]; exact Xa.out.2 i
          have fb : ∀ i, w22.frozen? ⟨bb, i, none⟩ = false := fun i => by rw [L22.out.frozen (by show bb < _; omega)]; exact Xb.out.2 i
          have gea : W.heap.size ≤ ab := by omega
          have geb : W.heap.size ≤ bb := by omega
          have hne : ab ≠ bb := by omega
          have hne2 : bb ≠ ab := by omega
          have SZ := hid (show (w17.heap.size ≤ w18.heap.size ∧ W.heap.size ≤ w17.heap.size ∧ w18.heap.size ≤ w21.heap.size ∧ w22.heap.size ≤ w22.heap.size) ∧ (ab < w17.heap.size ∨ w18.heap.size ≤ ab) ∧ (ab < w21.heap.size ∨ w22.heap.size ≤ ab) ∧ (bb < w17.heap.size ∨ w18.heap.size ≤ bb) ∧ (bb < w21.heap.size ∨ w22.heap.size ≤ bb) ∧ ab < w22.heap.size ∧ bb < w22.heap.size by omega)
          have HLB := hid (show w21.heap.size ≤ w22.heap.size by omega)
          clear za zb z0 z17 z18 z21 z22
          have s6 : Below W.heap.size W ((((w22.setCell ⟨ab, 0, none⟩ (.slice A.ext.a A.ext.n A.ext.c)).setCell ⟨ab, 1, none⟩ (.slice A.glo.a A.glo.n A.glo.c)).setCell ⟨ab, 2, none⟩ (.slice A.tab.a A.tab.n A.tab.c)).setCell ⟨ab, 3, none⟩ (.slice A.fns.a A.fns.n A.fns.c)) := CpM.four gea q22
          refine wpAnyH_ready (rs := [6]) (by kernel_rfl) (by simp) ?_
          refine AllReadyH.cons rfl (fun K hK => ?_) AllReadyH.nil
          go_simp
          refine hK.out _ _ s6 (fun _ => ?_)
          clear hK K
          replace hS := s6
          try simp only [Act.put, List.setIfInBounds_toArray, List.set_cons_zero, List.set_cons_succ]
          have s7 : Below W.heap.size W ((((((((w22.setCell ⟨ab, 0, none⟩ (.slice A.ext.a A.ext.n A.ext.c)).setCell ⟨ab, 1, none⟩ (.slice A.glo.a A.glo.n A.glo.c)).setCell ⟨ab, 2, none⟩ (.slice A.tab.a A.tab.n A.tab.c)).setCell ⟨ab, 3, none⟩ (.slice A.fns.a A.fns.n A.fns.c)).setCell ⟨bb, 0, none⟩ (.slice B.ext.a B.ext.n B.ext.c)).setCell ⟨bb, 1, none⟩ (.slice B.glo.a B.glo.n B.glo.c)).setCell ⟨bb, 2, none⟩ (.slice B.tab.a B.tab.n B.tab.c)).setCell ⟨bb, 3, none⟩ (.slice B.fns.a B.fns.n B.fns.c)) := CpM.four geb s6
          refine wpAnyH_ready (rs := [7]) (by kernel_rfl) (by simp) ?_
          refine AllReadyH.cons rfl (fun K hK => ?_) AllReadyH.nil
          go_simp
          refine hK.out _ _ s7 (fun _ => ?_)
          clear hK K
          replace hS := s7
          try simp only [Act.put, List.setIfInBounds_toArray, List.set_cons_zero, List.set_cons_succ]
          refine wpAnyH_done (by kernel_rfl) ?_ _
          refine NoPanic.normal ?_
          have FIN := hid (apart_fin (M := M) (W := W) q22 mA.out mB.out HB.out.eq HA.out.small HB.out.small HA.out.lies HB.out.lies wA.out BA.out BB.out SZ.out hne gea geb HLB.out)
          go_wp2_with fail
          go_meet
          case rel => exact ⟨ab, bb, A, B, rfl, rfl, FIN.out⟩
      · go_simp
        obtain ⟨w23, hw23⟩ : ∃ w23, w17.alloc (.cells #[.slice none 0 0, .slice none 0 0, .slice none 0 0, .slice none 0 0] 27) = w23 := ⟨_, rfl⟩
        obtain ⟨bb, hbb⟩ : ∃ bb, w17.heap.size = bb := ⟨_, rfl⟩
        have q23 : Below W.heap.size W w23 := by rw [← hw23]; exact new q17 _
        have L23 := hid (show Below w17.heap.size w17 w23 by rw [← hw23]; exact new (same _) _)
        have Z23 := hid (show w23.heap.size = w17.heap.size + 1 by rw [← hw23]; simp)
        have Xb := hid (show MBox w23 bb zeroM ∧ ∀ i, w23.frozen? ⟨bb, i, none⟩ = false by rw [← hw23, ← hbb]; exact ⟨MBox.alloc w17 zeroM, fun i => World.frozen?_alloc_new _ _ _ i⟩)
        rw [hw23, hbb]
        have Yb := hid hbb
        clear hw23 hbb
        refine hK.out _ _ q23 (fun _ => ?_)
        clear hK K
        replace hS := q23
        try simp only [Act.put, List.setIfInBounds_toArray, List.set_cons_zero, List.set_cons_succ]
        refine wpAnyH_ready (rs := [1]) (by kernel_rfl) (by simp) ?_
        refine AllReadyH.cons rfl (fun K hK => ?_) AllReadyH.nil
        go_simp
        refine (copy_apart M _ (IM.out.on q23) SM.out).mono ?_
        rintro e w24 ⟨A, rfl, hA⟩
        have q24 : Below W.heap.size W w24 := View.more q23 hA.low
        have Z24 := hid hA.low.size
        have L24 := hid hA.low
        have HA := hid hA
        clear hA
        go_wp2_with fail
        refine hK.out _ _ q24 (fun _ => ?_)
        clear hK K
        replace hS := q24
        try simp only [Act.put, List.setIfInBounds_toArray, List.set_cons_zero, List.set_cons_succ]
        refine wpAnyH_ready (rs := [3]) (by kernel_rfl) (by simp) ?_
        refine AllReadyH.cons rfl (fun K hK => ?_) AllReadyH.nil
        go_simp
        refine (copy_apart M _ (IM.out.on q24) SM.out).mono ?_
        rintro e w25 ⟨B, rfl, hB⟩
        have q25 : Below W.heap.size W w25 := View.more q24 hB.low
        have Z25 := hid hB.low.size
        have L25 := hid hB.low
        have HB := hid hB
        clear hB
        go_wp2_with fail
        refine hK.out _ _ q25 (fun _ => ?_)
        clear hK K
        replace hS := q25
        try simp only [Act.put, List.setIfInBounds_toArray, List.set_cons_zero, List.set_cons_succ]
        have za := Ya.out
        have zb := Yb.out
        have z0 := Z0.out
        have z17 := Z17.out
        have z23 := Z23.out
        have z24 := Z24.out
        have z25 := Z25.out
        have mA := hid (HA.out.inm.on L25.out)
        have mB := hid HB.out.inm
        have wA := hid (HA.out.wr.on HA.out.inm L25.out)
        obtain ⟨a0, a1, a2, a3⟩ := (((Xa.out.1.on L23.out).on L24.out).on L25.out)
        obtain ⟨g0, g1, g2, g3⟩ := ((Xb.out.1.on L24.out).on L25.out)
        have BA := hid (((Xa.out.1.on L23.out).on L24.out).on L25.out)
        have BB := hid ((Xb.out.1.on L24.out).on L25.out)
        have fa : ∀ i, w25.frozen? ⟨ab, i, none⟩ = false := fun i => by rw [L25.out.frozen (by show ab < _; omega), L24.out.frozen (by show ab < _; omega), L23.out.frozen (by show ab < _; omega)]; exact Xa.out.2 i
        have fb : ∀ i, w25.frozen? ⟨bb, i, none⟩ = false := fun i => by rw [L25.out.frozen (by show bb < _; omega), L24.out.frozen (by show bb < _; omega)]; exact Xb.out.2 i
        have gea : W.heap.size ≤ ab := by omega
        have geb : W.heap.size ≤ bb := by omega
        have hne : ab ≠ bb := by omega
        have hne2 : bb ≠ ab := by omega
        have SZ := hid (show (w23.heap.size ≤ w24.heap.size ∧ W.heap.size ≤ w23.heap.size ∧ w24.heap.size ≤ w24.heap.size ∧ w25.heap.size ≤ w25.heap.size) ∧ (ab < w23.heap.size ∨ w24.heap.size ≤ ab) ∧ (ab < w24.heap.size ∨ w25.heap.size ≤ ab) ∧ (bb < w23.heap.size ∨ w24.heap.size ≤ bb) ∧ (bb < w24.heap.size ∨ w25.heap.size ≤ bb) ∧ ab < w25.heap.size ∧ bb < w25.heap.size by omega)
        have HLB := hid (show w24.heap.size ≤ w25.heap.size by omega)
        clear za zb z0 z17 z23 z24 z25
        have s6 : Below W.heap.size W ((((w25.setCell ⟨ab, 0, none⟩ (.slice A.ext.a A.ext.n A.ext.c)).setCell ⟨ab, 1, none⟩ (.slice A.glo.a A.glo.n A.glo.c)).setCell ⟨ab, 2, none⟩ (.slice A.tab.a A.tab.n A.tab.c)).setCell ⟨ab, 3, none⟩ (.slice A.fns.a A.fns.n A.fns.c)) := CpM.four gea q25
        refine wpAnyH_ready (rs := [6]) (by kernel_rfl) (by simp) ?_
        refine AllReadyH.cons rfl (fun K hK => ?_) AllReadyH.nil
        go_simp
        refine hK.out _ _ s6 (fun _ => ?_)
        clear hK K
        replace hS := s6
        try simp only [Act.put, List.setIfInBounds_toArray, List.set_cons_zero, List.set_cons_succ]
        have s7 : Below W.heap.size W ((((((((w25.setCell ⟨ab, 0, none⟩ (.slice A.ext.a A.ext.n A.ext.c)).setCell ⟨ab, 1, none⟩ (.slice A.glo.a A.glo.n A.glo.c)).setCell ⟨ab, 2, none⟩ (.slice A.tab.a A.tab.n A.tab.c)).setCell ⟨ab, 3, none⟩ (.slice A.fns.a A.fns.n A.fns.c)).setCell ⟨bb, 0, none⟩ (.slice B.ext.a B.ext.n B.ext.c)).setCell ⟨bb, 1, none⟩ (.slice B.glo.a B.glo.n B.glo.c)).setCell ⟨bb, 2, none⟩ (.slice B.tab.a B.tab.n B.tab.c)).setCell ⟨bb, 3, none⟩ (.slice B.fns.a B.fns.n B.fns.c)) := CpM.four geb s6
        refine wpAnyH_ready (rs := [7]) (by kernel_rfl) (by simp) ?_
        refine AllReadyH.cons rfl (fun K hK => ?_) AllReadyH.nil
        go_simp
        refine hK.out _ _ s7 (fun _ => ?_)
        clear hK K
        replace hS := s7
        try simp only [Act.put, List.setIfInBounds_toArray, List.set_cons_zero, List.set_cons_succ]
        refine wpAnyH_done (by kernel_rfl) ?_ _
        refine NoPanic.normal ?_
        have FIN := hid (apart_fin (M := M) (W := W) q25 mA.out mB.out HB.out.eq HA.out.small HB.out.small HA.out.lies HB.out.lies wA.out BA.out BB.out SZ.out hne gea geb HLB.out)
        go_wp2_with fail
        go_meet
        case rel => exact ⟨ab, bb, A, B, rfl, rfl, FIN.out⟩
    · go_simp
      obtain ⟨w26, hw26⟩ : ∃ w26, w0.alloc (.cells #[.slice none 0 0, .slice none 0 0, .slice none 0 0, .slice none 0 0] 27) = w26 := ⟨_, rfl⟩
      obtain ⟨bb, hbb⟩ : ∃ bb, w0.heap.size = bb := ⟨_, rfl⟩
      have q26 : Below W.heap.size W w26 := by rw [← hw26]; exact new q0 _
      have L26 := hid (show Below w0.heap.size w0 w26 by rw [← hw26]; exact new (same _) _)
      have Z26 := hid (show w26.heap.size = w0.heap.size + 1 by rw [← hw26]; simp)
      have Xb := hid (show MBox w26 bb zeroM ∧ ∀ i, w26.frozen? ⟨bb, i, none⟩ = false by rw [← hw26, ← hbb]; exact ⟨MBox.alloc w0 zeroM, fun i => World.frozen?_alloc_new _ _ _ i⟩)
      rw [hw26, hbb]
      have Yb := hid hbb
      clear hw26 hbb
      refine hK.out _ _ q26 (fun _ => ?_)
      clear hK K
      replace hS := q26
      try simp only [Act.put, List.setIfInBounds_toArray, List.set_cons_zero, List.set_cons_succ]
      refine wpAnyH_ready (rs := [1, 4]) (by kernel_rfl) (by simp) ?_
      refine AllReadyH.cons rfl (fun K hK => ?_) (AllReadyH.cons rfl (fun K hK => ?_) AllReadyH.nil)
      · go_simp
        refine (copy_apart M _ (IM.out.on q26) SM.out).mono ?_
        rintro e w27 ⟨A, rfl, hA⟩
        have q27 : Below W.heap.size W w27 := View.more q26 hA.low
        have Z27 := hid hA.low.size
        have L27 := hid hA.low
        have HA := hid hA
        clear hA
        go_wp2_with fail
        refine hK.out _ _ q27 (fun _ => ?_)
        clear hK K
        replace hS := q27
        try simp only [Act.put, List.setIfInBounds_toArray, List.set_cons_zero, List.set_cons_succ]
        refine wpAnyH_ready (rs := [3, 4]) (by kernel_rfl) (by simp) ?_
        refine AllReadyH.cons rfl (fun K hK => ?_) (AllReadyH.cons rfl (fun K hK => ?_) AllReadyH.nil)
        · go_simp
          refine (copy_apart M _ (IM.out.on q27) SM.out).mono ?_
          rintro e w28 ⟨B, rfl, hB⟩
          have q28 : Below W.heap.size W w28 := View.more q27 hB.low
          have Z28 := hid hB.low.size
          have L28 := hid hB.low
          have HB := hid hB
          clear hB
          go_wp2_with fail
          refine hK.out _ _ q28 (fun _ => ?_)
          clear hK K
          replace hS := q28
          try simp only [Act.put, List.setIfInBounds_toArray, List.set_cons_zero, List.set_cons_succ]
          refine wpAnyH_ready (rs := [4]) (by kernel_rfl) (by simp) ?_
          refine AllReadyH.cons rfl (fun K hK => ?_) AllReadyH.nil
          go_simp
          obtain ⟨w29, hw29⟩ : ∃ w29, w28.alloc (.cells #[.slice none 0 0, .slice none 0 0, .slice none 0 0, .slice none 0 0] 27) = w29 := ⟨_, rfl⟩
          obtain ⟨ab, hab⟩ : ∃ ab, w28.heap.size = ab := ⟨_, rfl⟩
          have q29 : Below W.heap.size W w29 := by rw [← hw29]; exact new q28 _
          have L29 := hid (show Below w28.heap.size w28 w29 by rw [← hw29]; exact new (same _) _)
          have Z29 := hid (show w29.heap.size = w28.heap.size + 1 by rw [← hw29]; simp)
          have Xa := hid (show MBox w29 ab zeroM ∧ ∀ i, w29.frozen? ⟨ab, i, none⟩ = false by rw [← hw29, ← hab]; exact ⟨MBox.alloc w28 zeroM, fun i => World.frozen?_alloc_new _ _ _ i⟩)
          rw [hw29, hab]
          have Ya := hid hab
          clear hw29 hab
          refine hK.out _ _ q29 (fun _ => ?_)
          clear hK K
          replace hS := q29
          try simp only [Act.put, List.setIfInBounds_toArray, List.set_cons_zero, List.set_cons_succ]
          have za := Ya.out
          have zb := Yb.out
          have z0 := Z0.out
          have z26 := Z26.out
          have z27 := Z27.out
          have z28 := Z28.out
          have z29 := Z29.out
          have mA := hid ((HA.out.inm.on L28.out).on L29.out)
          have mB := hid (HB.out.inm.on L29.out)
          have wA := hid ((HA.out.wr.on HA.out.inm L28.out).on (HA.out.inm.on L28.out) L29.out)
          obtain ⟨a0, a1, a2, a3⟩ := Xa.out.1
          obtain ⟨g0, g1, g2, g3⟩ := (((Xb.out.1.on L27.out).on L28.out).on L29.out)
          have BA := hid Xa.out.1
          have BB := hid (((Xb.out.1.on L27.out).on L28.out).on L29.out)
          have fa : ∀ i, w29.frozen? ⟨ab, i, none⟩ = false := fun i => by exact Xa.out.2 i
          have fb : ∀ i, w29.frozen? ⟨bb, i, none⟩ = false := fun i => by rw [L29.out.frozen (by show bb < _; omega), L28.out.frozen (by show bb < _; omega), L27.out.frozen (by show bb < _; omega)]; exact Xb.out.2 i
          have gea : W.heap.size ≤ ab := by omega
          have geb : W.heap.size ≤ bb := by omega
          have hne : ab ≠ bb := by omega
          have hne2 : bb ≠ ab := by omega
          have SZ := hid (show (w26.heap.size ≤ w27.heap.size ∧ W.heap.size ≤ w26.heap.size ∧ w27.heap.size ≤ w27.heap.size ∧ w28.heap.size ≤ w29.heap.size) ∧ (ab < w26.heap.size ∨ w27.heap.size ≤ ab) ∧ (ab < w27.heap.size ∨ w28.heap.size ≤ ab) ∧ (bb < w26.heap.size ∨ w27.heap.size ≤ bb) ∧ (bb < w27.heap.size ∨ w28.heap.size ≤ bb) ∧ ab < w29.heap.size ∧ bb < w29.heap.size by omega)
          have HLB := hid (show w27.heap.size ≤ w29.heap.size by omega)
          clear za zb z0 z26 z27 z28 z29
          have s6 : Below W.heap.size W ((((w29.setCell ⟨ab, 0, none⟩ (.slice A.ext.a A.ext.n A.ext.c)).setCell ⟨ab, 1, none⟩ (.slice A.glo.a A.glo.n A.glo.c)).setCell ⟨ab, 2, none⟩ (.slice A.tab.a A.tab.n A.tab.c)).setCell ⟨ab, 3, none⟩ (.slice A.fns.a A.fns.n A.fns.c)) := CpM.four gea q29
          refine wpAnyH_ready (rs := [6]) (by kernel_rfl) (by simp) ?_
          refine AllReadyH.cons rfl (fun K hK => ?_) AllReadyH.nil
          go_simp
          refine hK.out _ _ s6 (fun _ => ?_)
          clear hK K
          replace hS := s6
          try simp only [Act.put, List.setIfInBounds_toArray, List.set_cons_zero, List.set_cons_succ]
          have s7 : Below W.heap.size W ((((((((w29.setCell ⟨ab, 0, none⟩ (.slice A.ext.a A.ext.n A.ext.c)).setCell ⟨ab, 1, none⟩ (.slice A.glo.a A.glo.n A.glo.c)).setCell ⟨ab, 2, none⟩ (.slice A.tab.a A.tab.n A.tab.c)).setCell ⟨ab, 3, none⟩ (.slice A.fns.a A.fns.n A.fns.c)).setCell ⟨bb, 0, none⟩ (.slice B.ext.a B.ext.n B.ext.c)).setCell ⟨bb, 1, none⟩ (.slice B.glo.a B.glo.n B.glo.c)).setCell ⟨bb, 2, none⟩ (.slice B.tab.a B.tab.n B.tab.c)).setCell ⟨bb, 3, none⟩ (.slice B.fns.a B.fns.n B.fns.c)) := CpM.four geb s6
          refine wpAnyH_ready (rs := [7]) (by kernel_rfl) (by simp) ?_
          refine AllReadyH.cons rfl (fun K hK => ?_) AllReadyH.nil
          go_simp
          refine hK.out _ _ s7 (fun _ => ?_)
          clear hK K
          replace hS := s7
          try simp only [Act.put, List.setIfInBounds_toArray, List.set_cons_zero, List.set_cons_succ]
          refine wpAnyH_done (by kernel_rfl) ?_ _
          refine NoPanic.normal ?_
          have FIN := hid (apart_fin (M := M) (W := W) q29 mA.out mB.out HB.out.eq HA.out.small HB.out.small HA.out.lies HB.out.lies wA.out BA.out BB.out SZ.out hne gea geb HLB.out)
          go_wp2_with fail
          go_meet
          case rel => exact ⟨ab, bb, A, B, rfl, rfl, FIN.out⟩
        · go_simp
          obtain ⟨w30, hw30⟩ : ∃ w30, w27.alloc (.cells #[.slice none 0 0, .slice none 0 0, .slice none 0 0, .slice none 0 0] 27) = w30 := ⟨_, rfl⟩
          obtain ⟨ab, hab⟩ : ∃ ab, w27.heap.size = ab := ⟨_, rfl⟩
          have q30 : Below W.heap.size W w30 := by rw [← hw30]; exact new q27 _
          have L30 := hid (show Below w27.heap.size w27 w30 by rw [← hw30]; exact new (same _) _)
          have Z30 := hid (show w30.heap.size = w27.heap.size + 1 by rw [← hw30]; simp)
          have Xa := hid (show MBox w30 ab zeroM ∧ ∀ i, w30.frozen? ⟨ab, i, none⟩ = false by rw [← hw30, ← hab]; exact ⟨MBox.alloc w27 zeroM, fun i => World.frozen?_alloc_new _ _ _ i⟩)
          rw [hw30, hab]
          have Ya := hid hab
          clear hw30 hab
          refine hK.out _ _ q30 (fun _ => ?_)
          clear hK K
          replace hS := q30
          try simp only [Act.put, List.setIfInBounds_toArray, List.set_cons_zero, List.set_cons_succ]
          refine wpAnyH_ready (rs := [3]) (by kernel_rfl) (by simp) ?_
          refine AllReadyH.cons rfl (fun K hK => ?_) AllReadyH.nil
          go_simp
          refine (copy_apart M _ (IM.out.on q30) SM.out).mono ?_
          rintro e w31 ⟨B, rfl, hB⟩
          have q31 : Below W.heap.size W w31 := View.more q30 hB.low
          have Z31 := hid hB.low.size
          have L31 := hid hB.low
          have HB := hid hB
          clear hB
          go_wp2_with fail
          refine hK.out _ _ q31 (fun _ => ?_)
          clear hK K
          replace hS := q31
          try simp only [Act.put, List.setIfInBounds_toArray, List.set_cons_zero, List.set_cons_succ]
          have za := Ya.out
          have zb := Yb.out
          have z0 := Z0.out
          have z26 := Z26.out
          have z27 := Z27.out
          have z30 := Z30.out
          have z31 := Z31.out
          have mA := hid ((HA.out.inm.on L30.out).on L31.out)
          have mB := hid HB.out.inm
          have wA := hid ((HA.out.wr.on HA.out.inm L30.out).on (HA.out.inm.on L30.out) L31.out)
          obtain ⟨a0, a1, a2, a3⟩ := (Xa.out.1.on L31.out)
          obtain ⟨g0, g1, g2, g3⟩ := (((Xb.out.1.on L27.out).on L30.out).on L31.out)
          have BA := hid (Xa.out.1.on L31.out)
          have BB := hid (((Xb.out.1.on L27.out).on L30.out).on L31.out)
          have fa : ∀ i, w31.frozen? ⟨ab, i, none⟩ = false := fun i => by rw [L31.out.frozen (by show ab < _; omega)]; exact Xa.out.2 i
          have fb : ∀ i, w31.frozen? ⟨bb, i, none⟩ = false := fun i => by rw [L31.out.frozen (by show bb < _; omega), L30.out.frozen (by show bb < _; omega), L27.out.frozen (by show bb < _; omega)]; exact Xb.out.2 i
          have gea : W.heap.size ≤ ab := by omega
          have geb : W.heap.size ≤ bb := by omega
          have hne : ab ≠ bb := by omega
          have hne2 : bb ≠ ab := by omega
          have SZ := hid (show (w26.heap.size ≤ w27.heap.size ∧ W.heap.size ≤ w26.heap.size ∧ w27.heap.size ≤ w30.heap.size ∧ w31.heap.size ≤ w31.heap.size) ∧ (ab < w26.heap.size ∨ w27.heap.size ≤ ab) ∧ (ab < w30.heap.size ∨ w31.heap.size ≤ ab) ∧ (bb < w26.heap.size ∨ w27.heap.size ≤ bb) ∧ (bb < w30.heap.size ∨ w31.heap.size ≤ bb) ∧ ab < w31.heap.size ∧ bb < w31.heap.size by omega)
          have HLB := hid (show w30.heap.size ≤ w31.heap.size by omega)
          clear za zb z0 z26 z27 z30 z31
          have s6 : Below W.heap.size W ((((w31.setCell ⟨ab, 0, none⟩ (.slice A.ext.a A.ext.n A.ext.c)).setCell ⟨ab, 1, none⟩ (.slice A.glo.a A.glo.n A.glo.c)).setCell ⟨ab, 2, none⟩ (.slice A.tab.a A.tab.n A.tab.c)).setCell ⟨ab, 3, none⟩ (.slice A.fns.a A.fns.n A.fns.c)) := CpM.four gea q31
          refine wpAnyH_ready (rs := [6]) (by kernel_rfl) (by simp) ?_
          refine AllReadyH.cons rfl (fun K hK => ?_) AllReadyH.nil
          go_simp
          refine hK.out _ _ s6 (fun _ => ?_)
          clear hK K
          replace hS := s6
          try simp only [Act.put, List.setIfInBounds_toArray, List.set_cons_zero, List.set_cons_succ]
          have s7 : Below W.heap.size W ((((((((w31.setCell ⟨ab, 0, none⟩ (.slice A.ext.a A.ext.n A.ext.c)).setCell ⟨ab, 1, none⟩ (.slice A.glo.a A.glo.n A.glo.c)).setCell ⟨ab, 2, none⟩ (.slice A.tab.a A.tab.n A.tab.c)).setCell ⟨ab, 3, none⟩ (.slice A.fns.a A.fns.n A.fns.c)).setCell ⟨bb, 0, none⟩ (.slice B.ext.a B.ext.n B.ext.c)).setCell ⟨bb, 1, none⟩ (.slice B.glo.a B.glo.n B.glo.c)).setCell ⟨bb, 2, none⟩ (.slice B.tab.a B.tab.n B.tab.c)).setCell ⟨bb, 3, none⟩ (.slice B.fns.a B.fns.n B.fns.c)) := CpM.four geb s6
          refine wpAnyH_ready (rs := [7]) (by kernel_rfl) (by simp) ?_
          refine AllReadyH.cons rfl (fun K hK => ?_) AllReadyH.nil
          go_simp
          refine hK.out _ _ s7 (fun _ => ?_)
          clear hK K
          replace hS := s7
          try simp only [Act.put, List.setIfInBounds_toArray, List.set_cons_zero, List.set_cons_succ]
          refine wpAnyH_done (by kernel_rfl) ?_ _
          refine NoPanic.normal ?_
          have FIN := hid (apart_fin (M := M) (W := W) q31 mA.out mB.out HB.out.eq HA.out.small HB.out.small HA.out.lies HB.out.lies wA.out BA.out BB.out SZ.out hne gea geb HLB.out)
          go_wp2_with fail
          go_meet
          case rel => exact ⟨ab, bb, A, B, rfl, rfl, FIN.out⟩
      · go_simp
        obtain ⟨w32, hw32⟩ : ∃ w32, w26.alloc (.cells #[.slice none 0 0, .slice none 0 0, .slice none 0 0, .slice none 0 0] 27) = w32 := ⟨_, rfl⟩
        obtain ⟨ab, hab⟩ : ∃ ab, w26.heap.size = ab := ⟨_, rfl⟩
        have q32 : Below W.heap.size W w32 := by rw [← hw32]; exact new q26 _
        have L32 := hid (show Below w26.heap.size w26 w32 by rw [← hw32]; exact new (same _) _)
        have Z32 := hid (show w32.heap.size = w26.heap.size + 1 by rw [← hw32]; simp)
        have Xa := hid (show MBox w32 ab zeroM ∧ ∀ i, w32.frozen? ⟨ab, i, none⟩ = false by rw [← hw32, ← hab]; exact ⟨MBox.alloc w26 zeroM, fun i => World.frozen?_alloc_new _ _ _ i⟩)
        rw [hw32, hab]
        have Ya := hid hab
        clear hw32 hab
        refine hK.out _ _ q32 (fun _ => ?_)
        clear hK K
        replace hS := q32
        try simp only [Act.put, List.setIfInBounds_toArray, List.set_cons_zero, List.set_cons_succ]
        refine wpAnyH_ready (rs := [1]) (by kernel_rfl) (by simp) ?_
        refine AllReadyH.cons rfl (fun K hK => ?_) AllReadyH.nil
        go_simp
        refine (copy_apart M _ (IM.out.on q32) SM.out).mono ?_
        rintro e w33 ⟨A, rfl, hA⟩
        have q33 : Below W.heap.size W w33 := View.more q32 hA.low
        have Z33 := hid hA.low.size
        have L33 := hid hA.low
        have HA := hid hA
        clear hA
        go_wp2_with fail
        refine hK.out _ _ q33 (fun _ => ?_)
        clear hK K
        replace hS := q33
        try simp only [Act.put, List.setIfInBounds_toArray, List.set_cons_zero, List.set_cons_succ]
        refine wpAnyH_ready (rs := [3]) (by kernel_rfl) (by simp) ?_
        refine AllReadyH.cons rfl (fun K hK => ?_) AllReadyH.nil
        go_simp
        refine (copy_apart M _ (IM.out.on q33) SM.out).mono ?_
        rintro e w34 ⟨B, rfl, hB⟩
        have q34 : Below W.heap.size W w34 := View.more q33 hB.low
        have Z34 := hid hB.low.size
        have L34 := hid hB.low
        have HB := hid hB
        clear hB
        go_wp2_with fail
        refine hK.out _ _ q34 (fun _ => ?_)
        clear hK K
        replace hS := q34
        try simp only [Act.put, List.setIfInBounds_toArray, List.set_cons_zero, List.set_cons_succ]
        have za := Ya.out
        have zb := Yb.out
        have z0 := Z0.out
        have z26 := Z26.out
        have z32 := Z32.out
        have z33 := Z33.out
        have z34 := Z34.out
        have mA := hid (HA.out.inm.on L34.out)
        have mB := hid HB.out.inm
        have wA := hid (HA.out.wr.on HA.out.inm L34.out)
        obtain ⟨a0, a1, a2, a3⟩ := ((Xa.out.1.on L33.out).on L34.out)
        obtain ⟨g0, g1, g2, g3⟩ := (((Xb.out.1.on L32.out).on L33.out).on L34.out)
        have BA := hid ((Xa.out.1.on L33.out).on L34.out)
        have BB := hid (((Xb.out.1.on L32.out).on L33.out).on L34.out)
        have fa : ∀ i, w34.frozen? ⟨ab, i, none⟩ = false := fun i => by rw [L34.out.frozen (by show ab < _; omega), L33.out.frozen (by show ab < _; omega)]; exact Xa.out.2 i
        have fb : ∀ i, w34.frozen? ⟨bb, i, none⟩ = false := fun i => by rw [L34.out.frozen (by show bb < _; omega), L33.out.frozen (by show bb < _; omega), L32.out.frozen (by show bb < _; omega)]; exact Xb.out.2 i
        have gea : W.heap.size ≤ ab := by omega
        have geb : W.heap.size ≤ bb := by omega
        have hne : ab ≠ bb := by omega
        have hne2 : bb ≠ ab := by omega
        have SZ := hid (show (w32.heap.size ≤ w33.heap.size ∧ W.heap.size ≤ w32.heap.size ∧ w33.heap.size ≤ w33.heap.size ∧ w34.heap.size ≤ w34.heap.size) ∧ (ab < w32.heap.size ∨ w33.heap.size ≤ ab) ∧ (ab < w33.heap.size ∨ w34.heap.size ≤ ab) ∧ (bb < w32.heap.size ∨ w33.heap.size ≤ bb) ∧ (bb < w33.heap.size ∨ w34.heap.size ≤ bb) ∧ ab < w34.heap.size ∧ bb < w34.heap.size by omega)
        have HLB := hid (show w33.heap.size ≤ w34.heap.size by omega)
        clear za zb z0 z26 z32 z33 z34
        have s6 : Below W.heap.size W ((((w34.setCell ⟨ab, 0, none⟩ (.slice A.ext.a A.ext.n A.ext.c)).setCell ⟨ab, 1, none⟩ (.slice A.glo.a A.glo.n A.glo.c)).setCell ⟨ab, 2, none⟩ (.slice A.tab.a A.tab.n A.tab.c)).setCell ⟨ab, 3, none⟩ (.slice A.fns.a A.fns.n A.fns.c)) := CpM.four gea q34
        refine wpAnyH_ready (rs := [6]) (by kernel_rfl) (by simp) ?_
        refine AllReadyH.cons rfl (fun K hK => ?_) AllReadyH.nil
        go_simp
        refine hK.out _ _ s6 (fun _ => ?_)
        clear hK K
        replace hS := s6
        try simp only [Act.put, List.setIfInBounds_toArray, List.set_cons_zero, List.set_cons_succ]
        have s7 : Below W.heap.size W ((((((((w34.setCell ⟨ab, 0, none⟩ (.slice A.ext.a A.ext.n A.ext.c)).setCell ⟨ab, 1, none⟩ (.slice A.glo.a A.glo.n A.glo.c)).setCell ⟨ab, 2, none⟩ (.slice A.tab.a A.tab.n A.tab.c)).setCell ⟨ab, 3, none⟩ (.slice A.fns.a A.fns.n A.fns.c)).setCell ⟨bb, 0, none⟩ (.slice B.ext.a B.ext.n B.ext.c)).setCell ⟨bb, 1, none⟩ (.slice B.glo.a B.glo.n B.glo.c)).setCell ⟨bb, 2, none⟩ (.slice B.tab.a B.tab.n B.tab.c)).setCell ⟨bb, 3, none⟩ (.slice B.fns.a B.fns.n B.fns.c)) := CpM.four geb s6
        refine wpAnyH_ready (rs := [7]) (by kernel_rfl) (by simp) ?_
        refine AllReadyH.cons rfl (fun K hK => ?_) AllReadyH.nil
        go_simp
        refine hK.out _ _ s7 (fun _ => ?_)
        clear hK K
        replace hS := s7
        try simp only [Act.put, List.setIfInBounds_toArray, List.set_cons_zero, List.set_cons_succ]
        refine wpAnyH_done (by kernel_rfl) ?_ _
        refine NoPanic.normal ?_
        have FIN := hid (apart_fin (M := M) (W := W) q34 mA.out mB.out HB.out.eq HA.out.small HB.out.small HA.out.lies HB.out.lies wA.out BA.out BB.out SZ.out hne gea geb HLB.out)
        go_wp2_with fail
        go_meet
        case rel => exact ⟨ab, bb, A, B, rfl, rfl, FIN.out⟩
  case rest =>
    obtain ⟨ab, bb, A, B, rfl, rfl, qa, xA, xB, iA, iB, eB, sA, sB, wA, lB, hq, low⟩ := hcut
    obtain ⟨a0, a1, a2, a3⟩ := xA
    have HB := hid (And.intro xB (And.intro iB (And.intro eB (And.intro sB (And.intro lB (And.intro hq low))))))
    have HA := hid (spoil_any qa A wc iA sA wA)
    clear xB iA iB eB sA sB wA lB hq low
    go_wp2_with fail
    refine HA.out.mono ?_
    rintro e W5 ⟨rfl, hch⟩
    have zc : (wc.alloc (.cells (mcells A) 27)).heap.size = wc.heap.size + 1 := by simp
    have low5 : Below W.heap.size W W5 := (new HB.out.2.2.2.2.2.2 _).trans (turn_below hch.turn (fun b hb => (HB.out.2.2.2.2.2.1 b hb).1) (by rw [zc]; have := HB.out.2.2.2.2.2.2.size; omega))
    have xB5 : MBox W5 bb B := ⟨hch.sl (HB.out.1.on (new (same _) _)).c0, hch.sl (HB.out.1.on (new (same _) _)).c1, hch.sl (HB.out.1.on (new (same _) _)).c2, hch.sl (HB.out.1.on (new (same _) _)).c3⟩
    have iB5 : InM W5 B := inM_lies (HB.out.2.1.on (new (same wc) _)) hch.turn.kept (HB.out.2.2.2.2.1.mono fun b hb => ⟨by rw [zc]; omega, hb.1⟩)
    have H5 := hid (And.intro low5 (And.intro xB5 iB5))
    clear hch low5 xB5 iB5 a0 a1 a2 a3 HA
    go_wp2_with fail
    go_loopw [6] (fun i wr => ∃ k : Nat, k ≤ M.fns.n ∧ i = .int .i64 k ∧ Below W5.heap.size W5 wr) (fun i _ => M.fns.n - (intOf i).toNat)
    case atStart => exact ⟨0, Nat.zero_le _, rfl, same _⟩
    case round =>
      obtain ⟨k, hk, rfl, hb⟩ := hrel
      have hbW := View.more H5.out.1 hb
      have HB2 := hid hb
      obtain ⟨c0, c1, c2, c3⟩ := MW.out.on hbW
      by_cases hlt : k < M.fns.n
      · obtain ⟨fb, fo, hfx, f0, f1, f2, f3, f4⟩ := (IM.out.on hbW).fns.at underlying25 size36 hlt
        have LF := hid (SM.out.light k hlt)
        have HN := hid (neat_any (M.F k) wr ((IM.out.fnI k hlt).on hbW) LF.out (FM.out.fns k hlt).rng)
        clear hbW
        go_wp2_with fail
        refine HN.out.mono ?_
        rintro e w6 ⟨G, atG, rfl, hoG, hnG, hb6⟩
        have z6 := hb6.size
        have spl := hid (spoil_any (fun b => wr.heap.size ≤ b) (soleM w6.heap.size G) (w6.alloc (.cells (fcells G) 36)) (sole_in (hoG.inn.on (new (same _) _)) ⟨(FuncAt.alloc w6 G).c0, (FuncAt.alloc w6 G).c1, (FuncAt.alloc w6 G).c2, (FuncAt.alloc w6 G).c3, (FuncAt.alloc w6 G).c4⟩) (sole_small (hnG.light LF.out)) (sole_wr (own_wr (hoG.on (new (same _) _)) (fun b h1 _ => h1))))
        have H6 := hid hb6
        clear hoG hnG hb6 HN
        go_wp2_with fail
        refine spl.out.mono ?_
        rintro e w7 ⟨rfl, hch⟩
        have lo7 : Below wr.heap.size wr w7 := (new (new H6.out _) _).trans (turn_below hch.turn (fun b hb => hb) (by simp; omega))
        have FIN := hid (View.more HB2.out lo7)
        clear hch lo7 spl
        go_wp2_with fail
        go_round
        case rel => exact ⟨k + 1, by omega, by go_num, FIN.out⟩
        case measure => simp [intOf]; omega
      · obtain rfl : k = M.fns.n := by omega
        obtain ⟨n0, n1, n2, n3⟩ := NW.out.on hbW
        obtain ⟨v0, v1, v2, v3⟩ := H5.out.2.1.on hb
        have BWr := hid hbW
        clear hb hbW
        go_wp2_with fail
        refine (same_ref M N _ (IM.out.on BWr.out) (IN.out.on BWr.out) SM.out).mono ?_
        rintro e w8 ⟨r8, rfl, hr8, hb8⟩
        obtain rfl : r8 = true := hr8.2 (eqM_symm EN.out.1)
        have B8 := hid hb8
        clear hr8 c0 c1 c2 c3
        have n0' := cell_on hb8 n0
        have n1' := cell_on hb8 n1
        have n2' := cell_on hb8 n2
        have n3' := cell_on hb8 n3
        have v0' := cell_on hb8 v0
        have v1' := cell_on hb8 v1
        have v2' := cell_on hb8 v2
        have v3' := cell_on hb8 v3
        clear hb8 n0 n1 n2 n3 v0 v1 v2 v3
        go_wp2_with fail
        refine (same_ref B N _ (((H5.out.2.2.on HB2.out)).on B8.out) ((IN.out.on BWr.out).on B8.out) HB.out.2.2.2.1).mono ?_
        rintro e w9 ⟨r9, rfl, hr9, hb9⟩
        obtain rfl : r9 = true := hr9.2 (eqM_trans HB.out.2.2.1 (eqM_symm EN.out.1))
        have B9 := hid hb9
        clear hr9 hb9
        go_wp2_with fail
        go_ret
        exact ⟨rfl, View.more (View.more (View.more BW.out BWr.out) B8.out) B9.out⟩

end Go.Proofs.Ythaedlnefikigaa.CpM
