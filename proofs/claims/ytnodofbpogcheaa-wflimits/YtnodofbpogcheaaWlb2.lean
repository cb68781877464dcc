/-
  WfLimits, walked: as many cells as may be, one more.
-/
import Derived.Test.YtnodofbpogcheaaJ11
namespace Go.Proofs.Ytnodofbpogcheaa.Wf
open Go.RowKit View Rd Num Copy Go.Proofs.Ytnodofbpogcheaa.Mod Go.Proofs.Ytnodofbpogcheaa.Wl Go.Proofs.Ytnodofbpogcheaa.Chk Go.Proofs.Ytnodofbpogcheaa.Flo

set_option linter.unusedVariables false

set_option maxRecDepth 10000 in
set_option maxHeartbeats 8000000 in
theorem lim2_false (which : Int) (w : World) (hck : ChkC) (hfi : ∀ w, Calls Try.prog 13 #[] w fun e w' => e = .returned (.bool true) ∧ Below w.heap.size w w') (a0 : Nat) (h1 : bits .and .i64 which 255 = (a0 : Int)) (h2 : (a0 : Int).tmod 6 = 2) :
    Calls Try.prog 4 #[.int .i64 which, .bool false] w fun e w' => e = .returned (.bool true) ∧ Below w.heap.size w w' := by
  have HF := hid hfi
  have HK := hid hck
  clear hfi hck
  go_enter Try.func4, Try.ntmps4
  go_wp2_with (go_at_call 13; refine (HF.out _).mono ?_; rintro e w1 ⟨rfl, hb⟩; have st1 := hid hb; clear hb)
  clear h1 h2
  obtain ⟨V, hV⟩ : ∃ V, w1.heap.size = V := ⟨_, rfl⟩
  rw [hV]
  obtain ⟨W0, hW0⟩ : ∃ W0, ((w1.alloc (.cells #[.slice none 0 0, .slice none 0 0, .slice none 0 0, .slice none 0 0] 27)).alloc (.cells #[.int .i64 29, .int .i64 0, .int .i64 0, .int .i64 0, .int .i64 0, .slice none 0 0, .slice none 0 0] 39)).alloc (.cells #[.slice (some ⟨V + 1, 0, none⟩) 1 1] 37) = W0 := ⟨_, rfl⟩
  rw [hW0]
  have BX := hid (show MCell4 W0 V ∧ (∀ i, W0.frozen? ⟨V, i, none⟩ = false) ∧ Below w1.heap.size w1 W0 ∧ V + 2 < W0.heap.size ∧ w1.heap.size ≤ V from by
    subst hV hW0
    exact ⟨⟨cell_on (new (new (same _) _) _) (by simp), cell_on (new (new (same _) _) _) (by simp), cell_on (new (new (same _) _) _) (by simp), cell_on (new (new (same _) _) _) (by simp)⟩, fun i => by rw [World.frozen?_alloc_old _ _ _ (by show w1.heap.size ≠ _; simp; omega), World.frozen?_alloc_old _ _ _ (by show w1.heap.size ≠ _; simp)]; exact World.frozen?_alloc_new _ _ _ i, new (new (new (same _) _) _) _, by simp, Nat.le_refl _⟩)
  have BD := hid (show BodyAt W0 V from by subst hV hW0; exact bodyAt_new w1)
  clear hW0
  have ST := hid (show GSt w1 W0 V 48 2 0 1 (csC 16) (elC 16) fpL W0 (slv ⟨none, 0, 0⟩) (fun _ => 0) from GSt.start _ BX.out.1.c1 BX.out.2.1 BX.out.2.2.1 (by have := BX.out.2.2.2.1; omega) BX.out.2.2.2.2)
  go_wp2_with fail
  obtain ⟨vs, hvs⟩ : ∃ vs : Sl, vs = ⟨none, 0, 0⟩ := ⟨_, rfl⟩
  rw [← hvs] at ST
  have hst := ST.out
  clear ST
  have hcV : W0.cell? ⟨V, 1, none⟩ = some (.slice vs.a vs.n vs.c) := hst.c
  have hcD : W0.drew.cell? ⟨V, 1, none⟩ = some (.slice vs.a vs.n vs.c) := hst.c
  have NV := hid (show some V ≠ (slv vs).ownBlock from fun e => by have := (hst.g.own.lt V e.symm).1; have := hst.lt; omega)
  have HST := hid hst
  have bx0 := hid (show Below W0.drew.heap.size W0.drew W0.drew from same _)
  clear hst hvs
  have hmk : ∀ wx : World, (Instr.makeSlice 46 (.int .i64 16) (.int .i64 16)).run Try.prog wx = .ok (.slice (some ⟨wx.heap.size, 0, none⟩) 16 16) (wx.alloc (.cells (Array.replicate 16 (.int .i64 0)) 2)) := mk_run 16 (by decide)
  refine wp_region_noPanic ?_
  refine wp_region_held_drew (S := fun _ => True) (by kernel_rfl) trivial (fun hS => ?_)
  refine Go.Proofs.Ytnodofbpogcheaa.Wl.takeAt (i := 0) (d := some 88) (v := ?va1_0) rfl (by rfl) (by kernel_rfl) (by kernel_rfl) (by kernel_rfl) (fun _ _ _ h => h) (Or.inl ⟨by rfl, ?ya1_0⟩) hS ?_
  case ya1_0 => intro wx hSw; (go_simp) <;> with_reducible rfl
  simp only [Act.put, List.setIfInBounds_toArray, List.set_cons_zero, List.set_cons_succ]
  refine Go.Proofs.Ytnodofbpogcheaa.Wl.takeAt (i := 2) (d := some 90) (v := ?va2_2) rfl (by rfl) (by kernel_rfl) (by kernel_rfl) (by kernel_rfl) (fun _ _ _ h => h) (Or.inl ⟨by rfl, ?ya2_2⟩) hS ?_
  case ya2_2 => intro wx hSw; (go_simp) <;> with_reducible rfl
  simp only [Act.put, List.setIfInBounds_toArray, List.set_cons_zero, List.set_cons_succ]
  refine Go.Proofs.Ytnodofbpogcheaa.Wl.takeAt (i := 3) (d := some 91) (v := ?va3_3) rfl (by rfl) (by kernel_rfl) (by kernel_rfl) (by kernel_rfl) (fun _ _ _ h => h) (Or.inl ⟨by rfl, ?ya3_3⟩) hS ?_
  case ya3_3 => intro wx hSw; (go_simp) <;> with_reducible rfl
  simp only [Act.put, List.setIfInBounds_toArray, List.set_cons_zero, List.set_cons_succ]
  refine wpAnyH_ready (rs := [1, 4]) (by kernel_rfl) (by simp) ?_
  refine AllReadyH.cons rfl (fun K hK => ?_) (AllReadyH.cons rfl (fun K hK => ?_) AllReadyH.nil)
  · go_simp
    refine hK.out _ _ trivial (fun _ => ?_)
    clear hK K
    have hS := True.intro
    try simp only [Act.put, List.setIfInBounds_toArray, List.set_cons_zero, List.set_cons_succ]
    refine wpAnyH_ready (rs := [4]) (by kernel_rfl) (by simp) ?_
    refine AllReadyH.cons rfl (fun K hK => ?_) AllReadyH.nil
    rw [if_pos (by rfl)]
    refine wp_make (l := .tmp 91) (c := .tmp 91) (d := some 92) (v := .slice (some ⟨W0.heap.size, 0, none⟩) 16 16) (w' := (World.alloc W0 (.cells (Array.replicate 16 (.int .i64 0)) 2)).drew) rfl rfl rfl rfl (hmk W0.drew) ?_
    try simp only [Act.put, List.setIfInBounds_toArray, List.set_cons_zero, List.set_cons_succ]
    refine hK.out _ _ trivial (fun _ => ?_)
    clear hK K
    have hS := True.intro
    try simp only [Act.put, List.setIfInBounds_toArray, List.set_cons_zero, List.set_cons_succ]
    obtain ⟨wx1, hwwx1⟩ : ∃ wq, (World.alloc W0 (.cells (Array.replicate 16 (.int .i64 0)) 2)).drew = wq := ⟨_, rfl⟩
    rw [hwwx1]
    have zwx1 : wx1.heap.size = W0.drew.heap.size + 1 := by rw [← hwwx1]; simp
    have bx1 := hid (show Below W0.drew.heap.size W0.drew wx1 by rw [← hwwx1]; exact new (bx0.out) _)
    have lwx1 := hid (show Below W0.drew.heap.size W0.drew wx1 by rw [← hwwx1]; exact new (same _) _)
    have hx1 : wx1.cell? ⟨V, 1, none⟩ = some (.slice vs.a vs.n vs.c) := cell_on lwx1.out hcD
    have ea : elC 16 0 wx1 0 W0.heap.size := by rw [← hwwx1]; exact cells_zero _ _
    clear hwwx1 zwx1
    refine Go.Proofs.Ytnodofbpogcheaa.Wl.takeAt (i := 5) (d := some 93) (v := ?va4_5) rfl (by rfl) (by kernel_rfl) (by kernel_rfl) (by kernel_rfl) (fun _ _ _ h => h) (Or.inl ⟨by rfl, ?ya4_5⟩) hS ?_
    case ya4_5 => intro wx hSw; (go_simp) <;> with_reducible rfl
    simp only [Act.put, List.setIfInBounds_toArray, List.set_cons_zero, List.set_cons_succ]
    refine wpAnyH_ready (rs := [6]) (by kernel_rfl) (by simp) ?_
    refine AllReadyH.cons rfl (fun K hK => ?_) AllReadyH.nil
    have ob := bx1.out
    have os := ob.size
    have zs := HST.out.size
    have os2 : W0.heap.size ≤ wx1.heap.size := Nat.le_trans zs os
    clear os zs ob
    obtain ⟨v5, w4, hrun, hown4, hgr4, hat4⟩ := app_gen (w2 := wx1) underGl infoGl rfl (by decide) (by decide) (owns_on (more (Below.drew (same W0)) bx1.out) HST.out.g.own) (by omega) os2 #[.string ⟨#[103]⟩, .slice (some ⟨W0.heap.size, 0, none⟩) 16 16] rfl (by intro x hx; simp at hx; rcases hx with rfl | rfl <;> rfl) 23
    obtain ⟨sv, rfl⟩ := owns_slv hown4
    have hc3 : (World.alloc wx1 (.cells #[.string ⟨#[103]⟩, .slice (some ⟨W0.heap.size, 0, none⟩) 16 16] 48)).cell? ⟨V, 1, none⟩ = some (.slice vs.a vs.n vs.c) := cell_on (new (same _) _) hx1
    have hc4 : w4.cell? ⟨V, 1, none⟩ = some (.slice vs.a vs.n vs.c) := by rw [World.cell?_of_block (w := World.alloc wx1 _) (hgr4.block V (World.block_lt_of_cell? _ _ hc3) NV.out)]; exact hc3
    have fz4 : w4.frozen? ⟨V, 1, none⟩ = false := by rw [World.frozen?_of_block (w := World.alloc wx1 _) (hgr4.block V (World.block_lt_of_cell? _ _ hc3) NV.out), World.frozen?_alloc_old _ _ _ (by have := World.block_lt_of_cell? _ _ hx1; show V ≠ _; simp at this ⊢; omega), bx1.out.frozen (by have := World.block_lt_of_cell? _ _ hcD; simpa using this)]; exact HST.out.fz 1
    go_simp
    refine hK.out _ _ trivial (fun _ => ?_)
    clear hK K
    have hS := True.intro
    try simp only [Act.put, List.setIfInBounds_toArray, List.set_cons_zero, List.set_cons_succ]
    refine wpAnyH_ready (rs := [7]) (by kernel_rfl) (by simp) ?_
    refine AllReadyH.cons rfl (fun K hK => ?_) AllReadyH.nil
    rw [if_pos (by rfl)]
    refine Go.Proofs.Ytnodofbpogcheaa.Wl.wp_app (s := .tmp 89) (x := .tmp 94) (t := 23) (d := some 95) rfl rfl rfl rfl rfl hrun ?_
    try simp only [Act.put, List.setIfInBounds_toArray, List.set_cons_zero, List.set_cons_succ]
    refine hK.out _ _ trivial (fun _ => ?_)
    clear hK K
    have hS := True.intro
    try simp only [Act.put, List.setIfInBounds_toArray, List.set_cons_zero, List.set_cons_succ]
    refine Go.Proofs.Ytnodofbpogcheaa.Wl.takeAt (i := 8) (d := some 96) (v := ?va5_8) rfl (by rfl) (by kernel_rfl) (by kernel_rfl) (by kernel_rfl) (fun _ _ _ h => h) (Or.inl ⟨by rfl, ?ya5_8⟩) hS ?_
    case ya5_8 => intro wx hSw; (go_simp) <;> with_reducible rfl
    simp only [Act.put, List.setIfInBounds_toArray, List.set_cons_zero, List.set_cons_succ]
    refine wpAnyH_ready (rs := [9]) (by kernel_rfl) (by simp) ?_
    refine AllReadyH.cons rfl (fun K hK => ?_) AllReadyH.nil
    go_simp
    refine hK.out _ _ trivial (fun _ => ?_)
    clear hK K
    have hS := True.intro
    try simp only [Act.put, List.setIfInBounds_toArray, List.set_cons_zero, List.set_cons_succ]
    refine wpAnyH_done (by kernel_rfl) ?_ _
    refine NoPanic.normal ?_
    obtain ⟨t2, g2⟩ := HST.out.step (stabC 16 _) (a := W0.heap.size) bx1.out ea (fun (b : Nat) hb => by obtain rfl : b = W0.heap.size := hb; exact ⟨Nat.le_refl _, World.block_lt_of_cell? _ _ (ea 0 (by decide))⟩) hown4 hgr4 hat4
    obtain ⟨hn, hrow⟩ := grow_row (p := GAt) (f := fun i => (⟨⟨#[103]⟩, ⟨some ⟨t2 0, 0, none⟩, 16, 16⟩⟩ : GV)) g2.g (by omega) (fun _ _ => rfl) (fun g i hi h => by (obtain rfl : i = 0 := (by omega)); exact ⟨h 0 (by decide), h 1 (by decide)⟩)
    have hst := g2
    have CK := hid (show Chks (.agg #[.slice none 0 0, .slice sv.a sv.n sv.c, .slice none 0 0, .slice none 0 0]) 0 _ from res_cel HK.out (n := 16) hrow hn (cells_ints (hst.g.el 0 (by decide)) (by decide)) rfl (by decide) (by decide))
    have c1 := hst.c
    have c0 := (hst.o 0 (by decide)).trans BX.out.1.c0
    have c2 := (hst.o 2 (by decide)).trans BX.out.1.c2
    have c3 := (hst.o 3 (by decide)).trans BX.out.1.c3
    have LO := hid hst.low
    clear hst hn hrow g2
    go_wp2_with (go_at_call 15; refine (CK.out _ (same _)).mono ?_; rintro e w5 ⟨rfl, hb5⟩; have B5 := hid hb5; clear hb5)
    go_ret
    exact ⟨rfl, View.more (View.more st1.out LO.out) B5.out⟩
  · rw [if_pos (by rfl)]
    refine wp_make (l := .tmp 91) (c := .tmp 91) (d := some 92) (v := .slice (some ⟨W0.heap.size, 0, none⟩) 16 16) (w' := (World.alloc W0 (.cells (Array.replicate 16 (.int .i64 0)) 2)).drew) rfl rfl rfl rfl (hmk W0.drew) ?_
    try simp only [Act.put, List.setIfInBounds_toArray, List.set_cons_zero, List.set_cons_succ]
    refine hK.out _ _ trivial (fun _ => ?_)
    clear hK K
    have hS := True.intro
    try simp only [Act.put, List.setIfInBounds_toArray, List.set_cons_zero, List.set_cons_succ]
    obtain ⟨wx1, hwwx1⟩ : ∃ wq, (World.alloc W0 (.cells (Array.replicate 16 (.int .i64 0)) 2)).drew = wq := ⟨_, rfl⟩
    rw [hwwx1]
    have zwx1 : wx1.heap.size = W0.drew.heap.size + 1 := by rw [← hwwx1]; simp
    have bx1 := hid (show Below W0.drew.heap.size W0.drew wx1 by rw [← hwwx1]; exact new (bx0.out) _)
    have lwx1 := hid (show Below W0.drew.heap.size W0.drew wx1 by rw [← hwwx1]; exact new (same _) _)
    have hx1 : wx1.cell? ⟨V, 1, none⟩ = some (.slice vs.a vs.n vs.c) := cell_on lwx1.out hcD
    have ea : elC 16 0 wx1 0 W0.heap.size := by rw [← hwwx1]; exact cells_zero _ _
    clear hwwx1 zwx1
    refine Go.Proofs.Ytnodofbpogcheaa.Wl.takeAt (i := 5) (d := some 93) (v := ?va6_5) rfl (by rfl) (by kernel_rfl) (by kernel_rfl) (by kernel_rfl) (fun _ _ _ h => h) (Or.inl ⟨by rfl, ?ya6_5⟩) hS ?_
    case ya6_5 => intro wx hSw; (go_simp) <;> with_reducible rfl
    simp only [Act.put, List.setIfInBounds_toArray, List.set_cons_zero, List.set_cons_succ]
    refine wpAnyH_ready (rs := [1, 6]) (by kernel_rfl) (by simp) ?_
    refine AllReadyH.cons rfl (fun K hK => ?_) (AllReadyH.cons rfl (fun K hK => ?_) AllReadyH.nil)
    · go_simp
      refine hK.out _ _ trivial (fun _ => ?_)
      clear hK K
      have hS := True.intro
      try simp only [Act.put, List.setIfInBounds_toArray, List.set_cons_zero, List.set_cons_succ]
      refine wpAnyH_ready (rs := [6]) (by kernel_rfl) (by simp) ?_
      refine AllReadyH.cons rfl (fun K hK => ?_) AllReadyH.nil
      have ob := bx1.out
      have os := ob.size
      have zs := HST.out.size
      have os2 : W0.heap.size ≤ wx1.heap.size := Nat.le_trans zs os
      clear os zs ob
      obtain ⟨v5, w4, hrun, hown4, hgr4, hat4⟩ := app_gen (w2 := wx1) underGl infoGl rfl (by decide) (by decide) (owns_on (more (Below.drew (same W0)) bx1.out) HST.out.g.own) (by omega) os2 #[.string ⟨#[103]⟩, .slice (some ⟨W0.heap.size, 0, none⟩) 16 16] rfl (by intro x hx; simp at hx; rcases hx with rfl | rfl <;> rfl) 23
      obtain ⟨sv, rfl⟩ := owns_slv hown4
      have hc3 : (World.alloc wx1 (.cells #[.string ⟨#[103]⟩, .slice (some ⟨W0.heap.size, 0, none⟩) 16 16] 48)).cell? ⟨V, 1, none⟩ = some (.slice vs.a vs.n vs.c) := cell_on (new (same _) _) hx1
      have hc4 : w4.cell? ⟨V, 1, none⟩ = some (.slice vs.a vs.n vs.c) := by rw [World.cell?_of_block (w := World.alloc wx1 _) (hgr4.block V (World.block_lt_of_cell? _ _ hc3) NV.out)]; exact hc3
      have fz4 : w4.frozen? ⟨V, 1, none⟩ = false := by rw [World.frozen?_of_block (w := World.alloc wx1 _) (hgr4.block V (World.block_lt_of_cell? _ _ hc3) NV.out), World.frozen?_alloc_old _ _ _ (by have := World.block_lt_of_cell? _ _ hx1; show V ≠ _; simp at this ⊢; omega), bx1.out.frozen (by have := World.block_lt_of_cell? _ _ hcD; simpa using this)]; exact HST.out.fz 1
      go_simp
      refine hK.out _ _ trivial (fun _ => ?_)
      clear hK K
      have hS := True.intro
      try simp only [Act.put, List.setIfInBounds_toArray, List.set_cons_zero, List.set_cons_succ]
      refine wpAnyH_ready (rs := [7]) (by kernel_rfl) (by simp) ?_
      refine AllReadyH.cons rfl (fun K hK => ?_) AllReadyH.nil
      rw [if_pos (by rfl)]
      refine Go.Proofs.Ytnodofbpogcheaa.Wl.wp_app (s := .tmp 89) (x := .tmp 94) (t := 23) (d := some 95) rfl rfl rfl rfl rfl hrun ?_
      try simp only [Act.put, List.setIfInBounds_toArray, List.set_cons_zero, List.set_cons_succ]
      refine hK.out _ _ trivial (fun _ => ?_)
      clear hK K
      have hS := True.intro
      try simp only [Act.put, List.setIfInBounds_toArray, List.set_cons_zero, List.set_cons_succ]
      refine Go.Proofs.Ytnodofbpogcheaa.Wl.takeAt (i := 8) (d := some 96) (v := ?va7_8) rfl (by rfl) (by kernel_rfl) (by kernel_rfl) (by kernel_rfl) (fun _ _ _ h => h) (Or.inl ⟨by rfl, ?ya7_8⟩) hS ?_
      case ya7_8 => intro wx hSw; (go_simp) <;> with_reducible rfl
      simp only [Act.put, List.setIfInBounds_toArray, List.set_cons_zero, List.set_cons_succ]
      refine wpAnyH_ready (rs := [9]) (by kernel_rfl) (by simp) ?_
      refine AllReadyH.cons rfl (fun K hK => ?_) AllReadyH.nil
      go_simp
      refine hK.out _ _ trivial (fun _ => ?_)
      clear hK K
      have hS := True.intro
      try simp only [Act.put, List.setIfInBounds_toArray, List.set_cons_zero, List.set_cons_succ]
      refine wpAnyH_done (by kernel_rfl) ?_ _
      refine NoPanic.normal ?_
      obtain ⟨t2, g2⟩ := HST.out.step (stabC 16 _) (a := W0.heap.size) bx1.out ea (fun (b : Nat) hb => by obtain rfl : b = W0.heap.size := hb; exact ⟨Nat.le_refl _, World.block_lt_of_cell? _ _ (ea 0 (by decide))⟩) hown4 hgr4 hat4
      obtain ⟨hn, hrow⟩ := grow_row (p := GAt) (f := fun i => (⟨⟨#[103]⟩, ⟨some ⟨t2 0, 0, none⟩, 16, 16⟩⟩ : GV)) g2.g (by omega) (fun _ _ => rfl) (fun g i hi h => by (obtain rfl : i = 0 := (by omega)); exact ⟨h 0 (by decide), h 1 (by decide)⟩)
      have hst := g2
      have CK := hid (show Chks (.agg #[.slice none 0 0, .slice sv.a sv.n sv.c, .slice none 0 0, .slice none 0 0]) 0 _ from res_cel HK.out (n := 16) hrow hn (cells_ints (hst.g.el 0 (by decide)) (by decide)) rfl (by decide) (by decide))
      have c1 := hst.c
      have c0 := (hst.o 0 (by decide)).trans BX.out.1.c0
      have c2 := (hst.o 2 (by decide)).trans BX.out.1.c2
      have c3 := (hst.o 3 (by decide)).trans BX.out.1.c3
      have LO := hid hst.low
      clear hst hn hrow g2
      go_wp2_with (go_at_call 15; refine (CK.out _ (same _)).mono ?_; rintro e w5 ⟨rfl, hb5⟩; have B5 := hid hb5; clear hb5)
      go_ret
      exact ⟨rfl, View.more (View.more st1.out LO.out) B5.out⟩
    · have ob := bx1.out
      have os := ob.size
      have zs := HST.out.size
      have os2 : W0.heap.size ≤ wx1.heap.size := Nat.le_trans zs os
      clear os zs ob
      obtain ⟨v5, w4, hrun, hown4, hgr4, hat4⟩ := app_gen (w2 := wx1) underGl infoGl rfl (by decide) (by decide) (owns_on (more (Below.drew (same W0)) bx1.out) HST.out.g.own) (by omega) os2 #[.string ⟨#[103]⟩, .slice (some ⟨W0.heap.size, 0, none⟩) 16 16] rfl (by intro x hx; simp at hx; rcases hx with rfl | rfl <;> rfl) 23
      obtain ⟨sv, rfl⟩ := owns_slv hown4
      have hc3 : (World.alloc wx1 (.cells #[.string ⟨#[103]⟩, .slice (some ⟨W0.heap.size, 0, none⟩) 16 16] 48)).cell? ⟨V, 1, none⟩ = some (.slice vs.a vs.n vs.c) := cell_on (new (same _) _) hx1
      have hc4 : w4.cell? ⟨V, 1, none⟩ = some (.slice vs.a vs.n vs.c) := by rw [World.cell?_of_block (w := World.alloc wx1 _) (hgr4.block V (World.block_lt_of_cell? _ _ hc3) NV.out)]; exact hc3
      have fz4 : w4.frozen? ⟨V, 1, none⟩ = false := by rw [World.frozen?_of_block (w := World.alloc wx1 _) (hgr4.block V (World.block_lt_of_cell? _ _ hc3) NV.out), World.frozen?_alloc_old _ _ _ (by have := World.block_lt_of_cell? _ _ hx1; show V ≠ _; simp at this ⊢; omega), bx1.out.frozen (by have := World.block_lt_of_cell? _ _ hcD; simpa using this)]; exact HST.out.fz 1
      go_simp
      refine hK.out _ _ trivial (fun _ => ?_)
      clear hK K
      have hS := True.intro
      try simp only [Act.put, List.setIfInBounds_toArray, List.set_cons_zero, List.set_cons_succ]
      refine wpAnyH_ready (rs := [1]) (by kernel_rfl) (by simp) ?_
      refine AllReadyH.cons rfl (fun K hK => ?_) AllReadyH.nil
      go_simp
      refine hK.out _ _ trivial (fun _ => ?_)
      clear hK K
      have hS := True.intro
      try simp only [Act.put, List.setIfInBounds_toArray, List.set_cons_zero, List.set_cons_succ]
      refine wpAnyH_ready (rs := [7]) (by kernel_rfl) (by simp) ?_
      refine AllReadyH.cons rfl (fun K hK => ?_) AllReadyH.nil
      rw [if_pos (by rfl)]
      refine Go.Proofs.Ytnodofbpogcheaa.Wl.wp_app (s := .tmp 89) (x := .tmp 94) (t := 23) (d := some 95) rfl rfl rfl rfl rfl hrun ?_
      try simp only [Act.put, List.setIfInBounds_toArray, List.set_cons_zero, List.set_cons_succ]
      refine hK.out _ _ trivial (fun _ => ?_)
      clear hK K
      have hS := True.intro
      try simp only [Act.put, List.setIfInBounds_toArray, List.set_cons_zero, List.set_cons_succ]
      refine Go.Proofs.Ytnodofbpogcheaa.Wl.takeAt (i := 8) (d := some 96) (v := ?va8_8) rfl (by rfl) (by kernel_rfl) (by kernel_rfl) (by kernel_rfl) (fun _ _ _ h => h) (Or.inl ⟨by rfl, ?ya8_8⟩) hS ?_
      case ya8_8 => intro wx hSw; (go_simp) <;> with_reducible rfl
      simp only [Act.put, List.setIfInBounds_toArray, List.set_cons_zero, List.set_cons_succ]
      refine wpAnyH_ready (rs := [9]) (by kernel_rfl) (by simp) ?_
      refine AllReadyH.cons rfl (fun K hK => ?_) AllReadyH.nil
      go_simp
      refine hK.out _ _ trivial (fun _ => ?_)
      clear hK K
      have hS := True.intro
      try simp only [Act.put, List.setIfInBounds_toArray, List.set_cons_zero, List.set_cons_succ]
      refine wpAnyH_done (by kernel_rfl) ?_ _
      refine NoPanic.normal ?_
      obtain ⟨t2, g2⟩ := HST.out.step (stabC 16 _) (a := W0.heap.size) bx1.out ea (fun (b : Nat) hb => by obtain rfl : b = W0.heap.size := hb; exact ⟨Nat.le_refl _, World.block_lt_of_cell? _ _ (ea 0 (by decide))⟩) hown4 hgr4 hat4
      obtain ⟨hn, hrow⟩ := grow_row (p := GAt) (f := fun i => (⟨⟨#[103]⟩, ⟨some ⟨t2 0, 0, none⟩, 16, 16⟩⟩ : GV)) g2.g (by omega) (fun _ _ => rfl) (fun g i hi h => by (obtain rfl : i = 0 := (by omega)); exact ⟨h 0 (by decide), h 1 (by decide)⟩)
      have hst := g2
      have CK := hid (show Chks (.agg #[.slice none 0 0, .slice sv.a sv.n sv.c, .slice none 0 0, .slice none 0 0]) 0 _ from res_cel HK.out (n := 16) hrow hn (cells_ints (hst.g.el 0 (by decide)) (by decide)) rfl (by decide) (by decide))
      have c1 := hst.c
      have c0 := (hst.o 0 (by decide)).trans BX.out.1.c0
      have c2 := (hst.o 2 (by decide)).trans BX.out.1.c2
      have c3 := (hst.o 3 (by decide)).trans BX.out.1.c3
      have LO := hid hst.low
      clear hst hn hrow g2
      go_wp2_with (go_at_call 15; refine (CK.out _ (same _)).mono ?_; rintro e w5 ⟨rfl, hb5⟩; have B5 := hid hb5; clear hb5)
      go_ret
      exact ⟨rfl, View.more (View.more st1.out LO.out) B5.out⟩

set_option maxRecDepth 10000 in
set_option maxHeartbeats 8000000 in
theorem lim2_true (which : Int) (w : World) (hck : ChkC) (hfi : ∀ w, Calls Try.prog 13 #[] w fun e w' => e = .returned (.bool true) ∧ Below w.heap.size w w') (a0 : Nat) (h1 : bits .and .i64 which 255 = (a0 : Int)) (h2 : (a0 : Int).tmod 6 = 2) :
    Calls Try.prog 4 #[.int .i64 which, .bool true] w fun e w' => e = .returned (.bool true) ∧ Below w.heap.size w w' := by
  have HF := hid hfi
  have HK := hid hck
  clear hfi hck
  go_enter Try.func4, Try.ntmps4
  go_wp2_with (go_at_call 13; refine (HF.out _).mono ?_; rintro e w1 ⟨rfl, hb⟩; have st1 := hid hb; clear hb)
  clear h1 h2
  obtain ⟨V, hV⟩ : ∃ V, w1.heap.size = V := ⟨_, rfl⟩
  rw [hV]
  obtain ⟨W0, hW0⟩ : ∃ W0, ((w1.alloc (.cells #[.slice none 0 0, .slice none 0 0, .slice none 0 0, .slice none 0 0] 27)).alloc (.cells #[.int .i64 29, .int .i64 0, .int .i64 0, .int .i64 0, .int .i64 0, .slice none 0 0, .slice none 0 0] 39)).alloc (.cells #[.slice (some ⟨V + 1, 0, none⟩) 1 1] 37) = W0 := ⟨_, rfl⟩
  rw [hW0]
  have BX := hid (show MCell4 W0 V ∧ (∀ i, W0.frozen? ⟨V, i, none⟩ = false) ∧ Below w1.heap.size w1 W0 ∧ V + 2 < W0.heap.size ∧ w1.heap.size ≤ V from by
    subst hV hW0
    exact ⟨⟨cell_on (new (new (same _) _) _) (by simp), cell_on (new (new (same _) _) _) (by simp), cell_on (new (new (same _) _) _) (by simp), cell_on (new (new (same _) _) _) (by simp)⟩, fun i => by rw [World.frozen?_alloc_old _ _ _ (by show w1.heap.size ≠ _; simp; omega), World.frozen?_alloc_old _ _ _ (by show w1.heap.size ≠ _; simp)]; exact World.frozen?_alloc_new _ _ _ i, new (new (new (same _) _) _) _, by simp, Nat.le_refl _⟩)
  have BD := hid (show BodyAt W0 V from by subst hV hW0; exact bodyAt_new w1)
  clear hW0
  have ST := hid (show GSt w1 W0 V 48 2 0 1 (csC 17) (elC 17) fpL W0 (slv ⟨none, 0, 0⟩) (fun _ => 0) from GSt.start _ BX.out.1.c1 BX.out.2.1 BX.out.2.2.1 (by have := BX.out.2.2.2.1; omega) BX.out.2.2.2.2)
  go_wp2_with fail
  obtain ⟨vs, hvs⟩ : ∃ vs : Sl, vs = ⟨none, 0, 0⟩ := ⟨_, rfl⟩
  rw [← hvs] at ST
  have hst := ST.out
  clear ST
  have hcV : W0.cell? ⟨V, 1, none⟩ = some (.slice vs.a vs.n vs.c) := hst.c
  have hcD : W0.drew.cell? ⟨V, 1, none⟩ = some (.slice vs.a vs.n vs.c) := hst.c
  have NV := hid (show some V ≠ (slv vs).ownBlock from fun e => by have := (hst.g.own.lt V e.symm).1; have := hst.lt; omega)
  have HST := hid hst
  have bx0 := hid (show Below W0.drew.heap.size W0.drew W0.drew from same _)
  clear hst hvs
  have hmk : ∀ wx : World, (Instr.makeSlice 46 (.int .i64 17) (.int .i64 17)).run Try.prog wx = .ok (.slice (some ⟨wx.heap.size, 0, none⟩) 17 17) (wx.alloc (.cells (Array.replicate 17 (.int .i64 0)) 2)) := mk_run 17 (by decide)
  refine wp_region_noPanic ?_
  refine wp_region_held_drew (S := fun _ => True) (by kernel_rfl) trivial (fun hS => ?_)
  refine Go.Proofs.Ytnodofbpogcheaa.Wl.takeAt (i := 0) (d := some 88) (v := ?va1_0) rfl (by rfl) (by kernel_rfl) (by kernel_rfl) (by kernel_rfl) (fun _ _ _ h => h) (Or.inl ⟨by rfl, ?ya1_0⟩) hS ?_
  case ya1_0 => intro wx hSw; (go_simp) <;> with_reducible rfl
  simp only [Act.put, List.setIfInBounds_toArray, List.set_cons_zero, List.set_cons_succ]
  refine Go.Proofs.Ytnodofbpogcheaa.Wl.takeAt (i := 2) (d := some 90) (v := ?va2_2) rfl (by rfl) (by kernel_rfl) (by kernel_rfl) (by kernel_rfl) (fun _ _ _ h => h) (Or.inl ⟨by rfl, ?ya2_2⟩) hS ?_
  case ya2_2 => intro wx hSw; (go_simp) <;> with_reducible rfl
  simp only [Act.put, List.setIfInBounds_toArray, List.set_cons_zero, List.set_cons_succ]
  refine Go.Proofs.Ytnodofbpogcheaa.Wl.takeAt (i := 3) (d := some 91) (v := ?va3_3) rfl (by rfl) (by kernel_rfl) (by kernel_rfl) (by kernel_rfl) (fun _ _ _ h => h) (Or.inl ⟨by rfl, ?ya3_3⟩) hS ?_
  case ya3_3 => intro wx hSw; (go_simp) <;> with_reducible rfl
  simp only [Act.put, List.setIfInBounds_toArray, List.set_cons_zero, List.set_cons_succ]
  refine wpAnyH_ready (rs := [1, 4]) (by kernel_rfl) (by simp) ?_
  refine AllReadyH.cons rfl (fun K hK => ?_) (AllReadyH.cons rfl (fun K hK => ?_) AllReadyH.nil)
  · go_simp
    refine hK.out _ _ trivial (fun _ => ?_)
    clear hK K
    have hS := True.intro
    try simp only [Act.put, List.setIfInBounds_toArray, List.set_cons_zero, List.set_cons_succ]
    refine wpAnyH_ready (rs := [4]) (by kernel_rfl) (by simp) ?_
    refine AllReadyH.cons rfl (fun K hK => ?_) AllReadyH.nil
    rw [if_pos (by rfl)]
    refine wp_make (l := .tmp 91) (c := .tmp 91) (d := some 92) (v := .slice (some ⟨W0.heap.size, 0, none⟩) 17 17) (w' := (World.alloc W0 (.cells (Array.replicate 17 (.int .i64 0)) 2)).drew) rfl rfl rfl rfl (hmk W0.drew) ?_
    try simp only [Act.put, List.setIfInBounds_toArray, List.set_cons_zero, List.set_cons_succ]
    refine hK.out _ _ trivial (fun _ => ?_)
    clear hK K
    have hS := True.intro
    try simp only [Act.put, List.setIfInBounds_toArray, List.set_cons_zero, List.set_cons_succ]
    obtain ⟨wx1, hwwx1⟩ : ∃ wq, (World.alloc W0 (.cells (Array.replicate 17 (.int .i64 0)) 2)).drew = wq := ⟨_, rfl⟩
    rw [hwwx1]
    have zwx1 : wx1.heap.size = W0.drew.heap.size + 1 := by rw [← hwwx1]; simp
    have bx1 := hid (show Below W0.drew.heap.size W0.drew wx1 by rw [← hwwx1]; exact new (bx0.out) _)
    have lwx1 := hid (show Below W0.drew.heap.size W0.drew wx1 by rw [← hwwx1]; exact new (same _) _)
    have hx1 : wx1.cell? ⟨V, 1, none⟩ = some (.slice vs.a vs.n vs.c) := cell_on lwx1.out hcD
    have ea : elC 17 0 wx1 0 W0.heap.size := by rw [← hwwx1]; exact cells_zero _ _
    clear hwwx1 zwx1
    refine Go.Proofs.Ytnodofbpogcheaa.Wl.takeAt (i := 5) (d := some 93) (v := ?va4_5) rfl (by rfl) (by kernel_rfl) (by kernel_rfl) (by kernel_rfl) (fun _ _ _ h => h) (Or.inl ⟨by rfl, ?ya4_5⟩) hS ?_
    case ya4_5 => intro wx hSw; (go_simp) <;> with_reducible rfl
    simp only [Act.put, List.setIfInBounds_toArray, List.set_cons_zero, List.set_cons_succ]
    refine wpAnyH_ready (rs := [6]) (by kernel_rfl) (by simp) ?_
    refine AllReadyH.cons rfl (fun K hK => ?_) AllReadyH.nil
    have ob := bx1.out
    have os := ob.size
    have zs := HST.out.size
    have os2 : W0.heap.size ≤ wx1.heap.size := Nat.le_trans zs os
    clear os zs ob
    obtain ⟨v5, w4, hrun, hown4, hgr4, hat4⟩ := app_gen (w2 := wx1) underGl infoGl rfl (by decide) (by decide) (owns_on (more (Below.drew (same W0)) bx1.out) HST.out.g.own) (by omega) os2 #[.string ⟨#[103]⟩, .slice (some ⟨W0.heap.size, 0, none⟩) 17 17] rfl (by intro x hx; simp at hx; rcases hx with rfl | rfl <;> rfl) 23
    obtain ⟨sv, rfl⟩ := owns_slv hown4
    have hc3 : (World.alloc wx1 (.cells #[.string ⟨#[103]⟩, .slice (some ⟨W0.heap.size, 0, none⟩) 17 17] 48)).cell? ⟨V, 1, none⟩ = some (.slice vs.a vs.n vs.c) := cell_on (new (same _) _) hx1
    have hc4 : w4.cell? ⟨V, 1, none⟩ = some (.slice vs.a vs.n vs.c) := by rw [World.cell?_of_block (w := World.alloc wx1 _) (hgr4.block V (World.block_lt_of_cell? _ _ hc3) NV.out)]; exact hc3
    have fz4 : w4.frozen? ⟨V, 1, none⟩ = false := by rw [World.frozen?_of_block (w := World.alloc wx1 _) (hgr4.block V (World.block_lt_of_cell? _ _ hc3) NV.out), World.frozen?_alloc_old _ _ _ (by have := World.block_lt_of_cell? _ _ hx1; show V ≠ _; simp at this ⊢; omega), bx1.out.frozen (by have := World.block_lt_of_cell? _ _ hcD; simpa using this)]; exact HST.out.fz 1
    go_simp
    refine hK.out _ _ trivial (fun _ => ?_)
    clear hK K
    have hS := True.intro
    try simp only [Act.put, List.setIfInBounds_toArray, List.set_cons_zero, List.set_cons_succ]
    refine wpAnyH_ready (rs := [7]) (by kernel_rfl) (by simp) ?_
    refine AllReadyH.cons rfl (fun K hK => ?_) AllReadyH.nil
    rw [if_pos (by rfl)]
    refine Go.Proofs.Ytnodofbpogcheaa.Wl.wp_app (s := .tmp 89) (x := .tmp 94) (t := 23) (d := some 95) rfl rfl rfl rfl rfl hrun ?_
    try simp only [Act.put, List.setIfInBounds_toArray, List.set_cons_zero, List.set_cons_succ]
    refine hK.out _ _ trivial (fun _ => ?_)
    clear hK K
    have hS := True.intro
    try simp only [Act.put, List.setIfInBounds_toArray, List.set_cons_zero, List.set_cons_succ]
    refine Go.Proofs.Ytnodofbpogcheaa.Wl.takeAt (i := 8) (d := some 96) (v := ?va5_8) rfl (by rfl) (by kernel_rfl) (by kernel_rfl) (by kernel_rfl) (fun _ _ _ h => h) (Or.inl ⟨by rfl, ?ya5_8⟩) hS ?_
    case ya5_8 => intro wx hSw; (go_simp) <;> with_reducible rfl
    simp only [Act.put, List.setIfInBounds_toArray, List.set_cons_zero, List.set_cons_succ]
    refine wpAnyH_ready (rs := [9]) (by kernel_rfl) (by simp) ?_
    refine AllReadyH.cons rfl (fun K hK => ?_) AllReadyH.nil
    go_simp
    refine hK.out _ _ trivial (fun _ => ?_)
    clear hK K
    have hS := True.intro
    try simp only [Act.put, List.setIfInBounds_toArray, List.set_cons_zero, List.set_cons_succ]
    refine wpAnyH_done (by kernel_rfl) ?_ _
    refine NoPanic.normal ?_
    obtain ⟨t2, g2⟩ := HST.out.step (stabC 17 _) (a := W0.heap.size) bx1.out ea (fun (b : Nat) hb => by obtain rfl : b = W0.heap.size := hb; exact ⟨Nat.le_refl _, World.block_lt_of_cell? _ _ (ea 0 (by decide))⟩) hown4 hgr4 hat4
    obtain ⟨hn, hrow⟩ := grow_row (p := GAt) (f := fun i => (⟨⟨#[103]⟩, ⟨some ⟨t2 0, 0, none⟩, 17, 17⟩⟩ : GV)) g2.g (by omega) (fun _ _ => rfl) (fun g i hi h => by (obtain rfl : i = 0 := (by omega)); exact ⟨h 0 (by decide), h 1 (by decide)⟩)
    have hst := g2
    have CK := hid (show Chks (.agg #[.slice none 0 0, .slice sv.a sv.n sv.c, .slice none 0 0, .slice none 0 0]) 2 _ from res_cel HK.out (n := 17) hrow hn (cells_ints (hst.g.el 0 (by decide)) (by decide)) rfl (by decide) (by decide))
    have c1 := hst.c
    have c0 := (hst.o 0 (by decide)).trans BX.out.1.c0
    have c2 := (hst.o 2 (by decide)).trans BX.out.1.c2
    have c3 := (hst.o 3 (by decide)).trans BX.out.1.c3
    have LO := hid hst.low
    clear hst hn hrow g2
    go_wp2_with (go_at_call 15; refine (CK.out _ (same _)).mono ?_; rintro e w5 ⟨rfl, hb5⟩; have B5 := hid hb5; clear hb5)
    go_ret
    exact ⟨rfl, View.more (View.more st1.out LO.out) B5.out⟩
  · rw [if_pos (by rfl)]
    refine wp_make (l := .tmp 91) (c := .tmp 91) (d := some 92) (v := .slice (some ⟨W0.heap.size, 0, none⟩) 17 17) (w' := (World.alloc W0 (.cells (Array.replicate 17 (.int .i64 0)) 2)).drew) rfl rfl rfl rfl (hmk W0.drew) ?_
    try simp only [Act.put, List.setIfInBounds_toArray, List.set_cons_zero, List.set_cons_succ]
    refine hK.out _ _ trivial (fun _ => ?_)
    clear hK K
    have hS := True.intro
    try simp only [Act.put, List.setIfInBounds_toArray, List.set_cons_zero, List.set_cons_succ]
    obtain ⟨wx1, hwwx1⟩ : ∃ wq, (World.alloc W0 (.cells (Array.replicate 17 (.int .i64 0)) 2)).drew = wq := ⟨_, rfl⟩
    rw [hwwx1]
    have zwx1 : wx1.heap.size = W0.drew.heap.size + 1 := by rw [← hwwx1]; simp
    have bx1 := hid (show Below W0.drew.heap.size W0.drew wx1 by rw [← hwwx1]; exact new (bx0.out) _)
    have lwx1 := hid (show Below W0.drew.heap.size W0.drew wx1 by rw [← hwwx1]; exact new (same _) _)
    have hx1 : wx1.cell? ⟨V, 1, none⟩ = some (.slice vs.a vs.n vs.c) := cell_on lwx1.out hcD
    have ea : elC 17 0 wx1 0 W0.heap.size := by rw [← hwwx1]; exact cells_zero _ _
    clear hwwx1 zwx1
    refine Go.Proofs.Ytnodofbpogcheaa.Wl.takeAt (i := 5) (d := some 93) (v := ?va6_5) rfl (by rfl) (by kernel_rfl) (by kernel_rfl) (by kernel_rfl) (fun _ _ _ h => h) (Or.inl ⟨by rfl, ?ya6_5⟩) hS ?_
    case ya6_5 => intro wx hSw; (go_simp) <;> with_reducible rfl
    simp only [Act.put, List.setIfInBounds_toArray, List.set_cons_zero, List.set_cons_succ]
    refine wpAnyH_ready (rs := [1, 6]) (by kernel_rfl) (by simp) ?_
    refine AllReadyH.cons rfl (fun K hK => ?_) (AllReadyH.cons rfl (fun K hK => ?_) AllReadyH.nil)
    · go_simp
      refine hK.out _ _ trivial (fun _ => ?_)
      clear hK K
      have hS := True.intro
      try simp only [Act.put, List.setIfInBounds_toArray, List.set_cons_zero, List.set_cons_succ]
      refine wpAnyH_ready (rs := [6]) (by kernel_rfl) (by simp) ?_
      refine AllReadyH.cons rfl (fun K hK => ?_) AllReadyH.nil
      have ob := bx1.out
      have os := ob.size
      have zs := HST.out.size
      have os2 : W0.heap.size ≤ wx1.heap.size := Nat.le_trans zs os
      clear os zs ob
      obtain ⟨v5, w4, hrun, hown4, hgr4, hat4⟩ := app_gen (w2 := wx1) underGl infoGl rfl (by decide) (by decide) (owns_on (more (Below.drew (same W0)) bx1.out) HST.out.g.own) (by omega) os2 #[.string ⟨#[103]⟩, .slice (some ⟨W0.heap.size, 0, none⟩) 17 17] rfl (by intro x hx; simp at hx; rcases hx with rfl | rfl <;> rfl) 23
      obtain ⟨sv, rfl⟩ := owns_slv hown4
      have hc3 : (World.alloc wx1 (.cells #[.string ⟨#[103]⟩, .slice (some ⟨W0.heap.size, 0, none⟩) 17 17] 48)).cell? ⟨V, 1, none⟩ = some (.slice vs.a vs.n vs.c) := cell_on (new (same _) _) hx1
      have hc4 : w4.cell? ⟨V, 1, none⟩ = some (.slice vs.a vs.n vs.c) := by rw [World.cell?_of_block (w := World.alloc wx1 _) (hgr4.block V (World.block_lt_of_cell? _ _ hc3) NV.out)]; exact hc3
      have fz4 : w4.frozen? ⟨V, 1, none⟩ = false := by rw [World.frozen?_of_block (w := World.alloc wx1 _) (hgr4.block V (World.block_lt_of_cell? _ _ hc3) NV.out), World.frozen?_alloc_old _ _ _ (by have := World.block_lt_of_cell? _ _ hx1; show V ≠ _; simp at this ⊢; omega), bx1.out.frozen (by have := World.block_lt_of_cell? _ _ hcD; simpa using this)]; exact HST.out.fz 1
      go_simp
      refine hK.out _ _ trivial (fun _ => ?_)
      clear hK K
      have hS := True.intro
      try simp only [Act.put, List.setIfInBounds_toArray, List.set_cons_zero, List.set_cons_succ]
      refine wpAnyH_ready (rs := [7]) (by kernel_rfl) (by simp) ?_
      refine AllReadyH.cons rfl (fun K hK => ?_) AllReadyH.nil
      rw [if_pos (by rfl)]
      refine Go.Proofs.Ytnodofbpogcheaa.Wl.wp_app (s := .tmp 89) (x := .tmp 94) (t := 23) (d := some 95) rfl rfl rfl rfl rfl hrun ?_
      try simp only [Act.put, List.setIfInBounds_toArray, List.set_cons_zero, List.set_cons_succ]
      refine hK.out _ _ trivial (fun _ => ?_)
      clear hK K
      have hS := True.intro
      try simp only [Act.put, List.setIfInBounds_toArray, List.set_cons_zero, List.set_cons_succ]
      refine Go.Proofs.Ytnodofbpogcheaa.Wl.takeAt (i := 8) (d := some 96) (v := ?va7_8) rfl (by rfl) (by kernel_rfl) (by kernel_rfl) (by kernel_rfl) (fun _ _ _ h => h) (Or.inl ⟨by rfl, ?ya7_8⟩) hS ?_
      case ya7_8 => intro wx hSw; (go_simp) <;> with_reducible rfl
      simp only [Act.put, List.setIfInBounds_toArray, List.set_cons_zero, List.set_cons_succ]
      refine wpAnyH_ready (rs := [9]) (by kernel_rfl) (by simp) ?_
      refine AllReadyH.cons rfl (fun K hK => ?_) AllReadyH.nil
      go_simp
      refine hK.out _ _ trivial (fun _ => ?_)
      clear hK K
      have hS := True.intro
      try simp only [Act.put, List.setIfInBounds_toArray, List.set_cons_zero, List.set_cons_succ]
      refine wpAnyH_done (by kernel_rfl) ?_ _
      refine NoPanic.normal ?_
      obtain ⟨t2, g2⟩ := HST.out.step (stabC 17 _) (a := W0.heap.size) bx1.out ea (fun (b : Nat) hb => by obtain rfl : b = W0.heap.size := hb; exact ⟨Nat.le_refl _, World.block_lt_of_cell? _ _ (ea 0 (by decide))⟩) hown4 hgr4 hat4
      obtain ⟨hn, hrow⟩ := grow_row (p := GAt) (f := fun i => (⟨⟨#[103]⟩, ⟨some ⟨t2 0, 0, none⟩, 17, 17⟩⟩ : GV)) g2.g (by omega) (fun _ _ => rfl) (fun g i hi h => by (obtain rfl : i = 0 := (by omega)); exact ⟨h 0 (by decide), h 1 (by decide)⟩)
      have hst := g2
      have CK := hid (show Chks (.agg #[.slice none 0 0, .slice sv.a sv.n sv.c, .slice none 0 0, .slice none 0 0]) 2 _ from res_cel HK.out (n := 17) hrow hn (cells_ints (hst.g.el 0 (by decide)) (by decide)) rfl (by decide) (by decide))
      have c1 := hst.c
      have c0 := (hst.o 0 (by decide)).trans BX.out.1.c0
      have c2 := (hst.o 2 (by decide)).trans BX.out.1.c2
      have c3 := (hst.o 3 (by decide)).trans BX.out.1.c3
      have LO := hid hst.low
      clear hst hn hrow g2
      go_wp2_with (go_at_call 15; refine (CK.out _ (same _)).mono ?_; rintro e w5 ⟨rfl, hb5⟩; have B5 := hid hb5; clear hb5)
      go_ret
      exact ⟨rfl, View.more (View.more st1.out LO.out) B5.out⟩
    · have ob := bx1.out
      have os := ob.size
      have zs := HST.out.size
      have os2 : W0.heap.size ≤ wx1.heap.size := Nat.le_trans zs os
      clear os zs ob
      obtain ⟨v5, w4, hrun, hown4, hgr4, hat4⟩ := app_gen (w2 := wx1) underGl infoGl rfl (by decide) (by decide) (owns_on (more (Below.drew (same W0)) bx1.out) HST.out.g.own) (by omega) os2 #[.string ⟨#[103]⟩, .slice (some ⟨W0.heap.size, 0, none⟩) 17 17] rfl (by intro x hx; simp at hx; rcases hx with rfl | rfl <;> rfl) 23
      obtain ⟨sv, rfl⟩ := owns_slv hown4
      have hc3 : (World.alloc wx1 (.cells #[.string ⟨#[103]⟩, .slice (some ⟨W0.heap.size, 0, none⟩) 17 17] 48)).cell? ⟨V, 1, none⟩ = some (.slice vs.a vs.n vs.c) := cell_on (new (same _) _) hx1
      have hc4 : w4.cell? ⟨V, 1, none⟩ = some (.slice vs.a vs.n vs.c) := by rw [World.cell?_of_block (w := World.alloc wx1 _) (hgr4.block V (World.block_lt_of_cell? _ _ hc3) NV.out)]; exact hc3
      have fz4 : w4.frozen? ⟨V, 1, none⟩ = false := by rw [World.frozen?_of_block (w := World.alloc wx1 _) (hgr4.block V (World.block_lt_of_cell? _ _ hc3) NV.out), World.frozen?_alloc_old _ _ _ (by have := World.block_lt_of_cell? _ _ hx1; show V ≠ _; simp at this ⊢; omega), bx1.out.frozen (by have := World.block_lt_of_cell? _ _ hcD; simpa using this)]; exact HST.out.fz 1
      go_simp
      refine hK.out _ _ trivial (fun _ => ?_)
      clear hK K
      have hS := True.intro
      try simp only [Act.put, List.setIfInBounds_toArray, List.set_cons_zero, List.set_cons_succ]
      refine wpAnyH_ready (rs := [1]) (by kernel_rfl) (by simp) ?_
      refine AllReadyH.cons rfl (fun K hK => ?_) AllReadyH.nil
      go_simp
      refine hK.out _ _ trivial (fun _ => ?_)
      clear hK K
      have hS := True.intro
      try simp only [Act.put, List.setIfInBounds_toArray, List.set_cons_zero, List.set_cons_succ]
      refine wpAnyH_ready (rs := [7]) (by kernel_rfl) (by simp) ?_
      refine AllReadyH.cons rfl (fun K hK => ?_) AllReadyH.nil
      rw [if_pos (by rfl)]
      refine Go.Proofs.Ytnodofbpogcheaa.Wl.wp_app (s := .tmp 89) (x := .tmp 94) (t := 23) (d := some 95) rfl rfl rfl rfl rfl hrun ?_
      try simp only [Act.put, List.setIfInBounds_toArray, List.set_cons_zero, List.set_cons_succ]
      refine hK.out _ _ trivial (fun _ => ?_)
      clear hK K
      have hS := True.intro
      try simp only [Act.put, List.setIfInBounds_toArray, List.set_cons_zero, List.set_cons_succ]
      refine Go.Proofs.Ytnodofbpogcheaa.Wl.takeAt (i := 8) (d := some 96) (v := ?va8_8) rfl (by rfl) (by kernel_rfl) (by kernel_rfl) (by kernel_rfl) (fun _ _ _ h => h) (Or.inl ⟨by rfl, ?ya8_8⟩) hS ?_
      case ya8_8 => intro wx hSw; (go_simp) <;> with_reducible rfl
      simp only [Act.put, List.setIfInBounds_toArray, List.set_cons_zero, List.set_cons_succ]
      refine wpAnyH_ready (rs := [9]) (by kernel_rfl) (by simp) ?_
      refine AllReadyH.cons rfl (fun K hK => ?_) AllReadyH.nil
      go_simp
      refine hK.out _ _ trivial (fun _ => ?_)
      clear hK K
      have hS := True.intro
      try simp only [Act.put, List.setIfInBounds_toArray, List.set_cons_zero, List.set_cons_succ]
      refine wpAnyH_done (by kernel_rfl) ?_ _
      refine NoPanic.normal ?_
      obtain ⟨t2, g2⟩ := HST.out.step (stabC 17 _) (a := W0.heap.size) bx1.out ea (fun (b : Nat) hb => by obtain rfl : b = W0.heap.size := hb; exact ⟨Nat.le_refl _, World.block_lt_of_cell? _ _ (ea 0 (by decide))⟩) hown4 hgr4 hat4
      obtain ⟨hn, hrow⟩ := grow_row (p := GAt) (f := fun i => (⟨⟨#[103]⟩, ⟨some ⟨t2 0, 0, none⟩, 17, 17⟩⟩ : GV)) g2.g (by omega) (fun _ _ => rfl) (fun g i hi h => by (obtain rfl : i = 0 := (by omega)); exact ⟨h 0 (by decide), h 1 (by decide)⟩)
      have hst := g2
      have CK := hid (show Chks (.agg #[.slice none 0 0, .slice sv.a sv.n sv.c, .slice none 0 0, .slice none 0 0]) 2 _ from res_cel HK.out (n := 17) hrow hn (cells_ints (hst.g.el 0 (by decide)) (by decide)) rfl (by decide) (by decide))
      have c1 := hst.c
      have c0 := (hst.o 0 (by decide)).trans BX.out.1.c0
      have c2 := (hst.o 2 (by decide)).trans BX.out.1.c2
      have c3 := (hst.o 3 (by decide)).trans BX.out.1.c3
      have LO := hid hst.low
      clear hst hn hrow g2
      go_wp2_with (go_at_call 15; refine (CK.out _ (same _)).mono ?_; rintro e w5 ⟨rfl, hb5⟩; have B5 := hid hb5; clear hb5)
      go_ret
      exact ⟨rfl, View.more (View.more st1.out LO.out) B5.out⟩

end Go.Proofs.Ytnodofbpogcheaa.Wf
