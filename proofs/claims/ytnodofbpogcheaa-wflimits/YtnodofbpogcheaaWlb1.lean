/-
  WfLimits, walked: as many globals as may be, one more.
-/
import Derived.Test.YtnodofbpogcheaaJ11
namespace Go.Proofs.Ytnodofbpogcheaa.Wf
open Go.RowKit View Rd Num Copy Go.Proofs.Ytnodofbpogcheaa.Mod Go.Proofs.Ytnodofbpogcheaa.Wl Go.Proofs.Ytnodofbpogcheaa.Chk Go.Proofs.Ytnodofbpogcheaa.Flo

set_option linter.unusedVariables false

set_option maxRecDepth 10000 in
set_option maxHeartbeats 8000000 in
theorem lim1_false (which : Int) (w : World) (hck : ChkC) (hfi : ∀ w, Calls Try.prog 13 #[] w fun e w' => e = .returned (.bool true) ∧ Below w.heap.size w w') (a0 : Nat) (h1 : bits .and .i64 which 255 = (a0 : Int)) (h2 : (a0 : Int).tmod 6 = 1) :
    Calls Try.prog 4 #[.int .i64 which, .bool false] w fun e w' => e = .returned (.bool true) ∧ Below w.heap.size w w' := by
  have HF := hid hfi
  have HK := hid hck
  clear hfi hck
  go_enter Try.func4, Try.ntmps4
  go_wp2_with (go_at_call 13; refine (HF.out _).mono ?_; rintro e w1 ⟨rfl, hb⟩; have st1 := hid hb; clear hb)
  clear h1 h2
  obtain ⟨V, hV⟩ : ∃ V, w1.heap.size = V := ⟨_, rfl⟩
  rw [hV]
  obtain ⟨W0, hW0⟩ : ∃ W0, ((w1.alloc (.cells #[.slice none 0 0, .slice none 0 0, .slice none 0 0, .slice none 0 0] 27)).alloc (.cells #[.int .i64 29, .int .i64 0, .int .i64 0, .int .i64 0, .int .i64 0, .slice none 0 0, .slice none 0 0] 39)).alloc (.cells #[.slice (some ⟨V + 1, 0, none⟩) 1 1] 37) = W0 := ⟨_, rfl⟩
  rw [hW0]
  have BX := hid (show MCell4 W0 V ∧ (∀ i, W0.frozen? ⟨V, i, none⟩ = false) ∧ Below w1.heap.size w1 W0 ∧ V + 2 < W0.heap.size ∧ w1.heap.size ≤ V from by
    subst hV hW0
    exact ⟨⟨cell_on (new (new (same _) _) _) (by simp), cell_on (new (new (same _) _) _) (by simp), cell_on (new (new (same _) _) _) (by simp), cell_on (new (new (same _) _) _) (by simp)⟩, fun i => by rw [World.frozen?_alloc_old _ _ _ (by show w1.heap.size ≠ _; simp; omega), World.frozen?_alloc_old _ _ _ (by show w1.heap.size ≠ _; simp)]; exact World.frozen?_alloc_new _ _ _ i, new (new (new (same _) _) _) _, by simp, Nat.le_refl _⟩)
  have BD := hid (show BodyAt W0 V from by subst hV hW0; exact bodyAt_new w1)
  clear hW0
  have ST := hid (show GSt w1 W0 V 48 2 0 1 (csL) (elL) fpL W0 (slv ⟨none, 0, 0⟩) (fun _ => 0) from GSt.start _ BX.out.1.c1 BX.out.2.1 BX.out.2.2.1 (by have := BX.out.2.2.2.1; omega) BX.out.2.2.2.2)
  go_loopw [9] (fun i wr => ∃ k : Nat, k ≤ 12 ∧ i = .int .i64 k ∧ ∃ (vs : Sl) (t : Nat → Nat), GSt w1 W0 V 48 2 k 1 csL elL fpL wr (slv vs) t) (fun i _ => 12 - (intOf i).toNat)
  case atStart => exact ⟨0, Nat.zero_le _, rfl, _, _, ST.out⟩
  case round =>
    obtain ⟨k, hk, rfl, vs, t, hst⟩ := hrel
    by_cases hlt : k < 12
    · obtain ⟨d, hd⟩ : ∃ d, Lx.shown (k : Int) = d := ⟨_, rfl⟩
      have hds : d.size ≤ 21 := by rw [← hd]; exact Lx.shown_small ⟨by omega, by omega⟩
      have hds2 : ¬ 9223372036854775807 < 1 + d.size := by omega
      have hn : (⟨#[103]⟩ : ByteArray) ++ d = nm 103 k := by rw [← hd]; exact nm_show 103 k
      have HC := hid (show ∀ w1, Calls Try.prog 14 #[.int .i64 k] w1 fun e w' => e = .returned (.string d) ∧ Below w1.heap.size w1 w' from fun w1 => by rw [← hd]; exact Lx.rshow_any k w1 ⟨by omega, by omega⟩)
      have hcV : wr.cell? ⟨V, 1, none⟩ = some (.slice vs.a vs.n vs.c) := hst.c
      have hcD : wr.drew.cell? ⟨V, 1, none⟩ = some (.slice vs.a vs.n vs.c) := hst.c
      have NV := hid (show some V ≠ (slv vs).ownBlock from fun e => by have := (hst.g.own.lt V e.symm).1; have := hst.lt; omega)
      have HST := hid hst
      have bx0 := hid (show Below wr.drew.heap.size wr.drew wr.drew from same _)
      clear hst hd
      go_wp2_with fail
      refine wp_region_noPanic ?_
      refine wp_region_held_drew (S := fun _ => True) (by kernel_rfl) trivial (fun hS => ?_)
      refine Go.Proofs.Ytnodofbpogcheaa.Wl.takeAt (i := 0) (d := some 76) (v := ?va1_0) rfl (by rfl) (by kernel_rfl) (by kernel_rfl) (by kernel_rfl) (fun _ _ _ h => h) (Or.inl ⟨by rfl, ?ya1_0⟩) hS ?_
      case ya1_0 => intro wx hSw; (go_simp) <;> with_reducible rfl
      simp only [Act.put, List.setIfInBounds_toArray, List.set_cons_zero, List.set_cons_succ]
      refine Go.Proofs.Ytnodofbpogcheaa.Wl.takeAt (i := 2) (d := some 78) (v := ?va2_2) rfl (by rfl) (by kernel_rfl) (by kernel_rfl) (by kernel_rfl) (fun _ _ _ h => h) (Or.inl ⟨by rfl, ?ya2_2⟩) hS ?_
      case ya2_2 => intro wx hSw; (go_simp) <;> with_reducible rfl
      simp only [Act.put, List.setIfInBounds_toArray, List.set_cons_zero, List.set_cons_succ]
      refine wpAnyH_ready (rs := [1, 3, 5]) (by kernel_rfl) (by simp) ?_
      refine AllReadyH.cons rfl (fun K hK => ?_) (AllReadyH.cons rfl (fun K hK => ?_) (AllReadyH.cons rfl (fun K hK => ?_) AllReadyH.nil))
      · go_simp
        refine hK.out _ _ trivial (fun _ => ?_)
        clear hK K
        have hS := True.intro
        try simp only [Act.put, List.setIfInBounds_toArray, List.set_cons_zero, List.set_cons_succ]
        refine wpAnyH_ready (rs := [3, 5]) (by kernel_rfl) (by simp) ?_
        refine AllReadyH.cons rfl (fun K hK => ?_) (AllReadyH.cons rfl (fun K hK => ?_) AllReadyH.nil)
        · go_simp
          refine (HC.out _).mono ?_
          rintro e wx1 ⟨rfl, hbN⟩
          have hx1 := cell_on hbN hcD
          have bx1 := hid (View.more bx0.out hbN)
          clear hbN
          go_wp2_with fail
          refine hK.out _ _ trivial (fun _ => ?_)
          clear hK K
          have hS := True.intro
          try simp only [Act.put, List.setIfInBounds_toArray, List.set_cons_zero, List.set_cons_succ]
          refine Go.Proofs.Ytnodofbpogcheaa.Wl.takeAt (i := 4) (d := some 80) (v := ?va3_4) rfl (by rfl) (by kernel_rfl) (by kernel_rfl) (by kernel_rfl) (fun _ _ _ h => h) (Or.inl ⟨by rfl, ?ya3_4⟩) hS ?_
          case ya3_4 => intro wx hSw; (go_simp) <;> with_reducible rfl
          simp only [Act.put, List.setIfInBounds_toArray, List.set_cons_zero, List.set_cons_succ]
          refine wpAnyH_ready (rs := [5]) (by kernel_rfl) (by simp) ?_
          refine AllReadyH.cons rfl (fun K hK => ?_) AllReadyH.nil
          go_simp
          refine hK.out _ _ trivial (fun _ => ?_)
          clear hK K
          have hS := True.intro
          try simp only [Act.put, List.setIfInBounds_toArray, List.set_cons_zero, List.set_cons_succ]
          obtain ⟨wx2, hwwx2⟩ : ∃ wq, World.alloc wx1 (.cells #[.int .i64 0] 2) = wq := ⟨_, rfl⟩
          rw [hwwx2]
          have zwx2 : wx2.heap.size = wx1.heap.size + 1 := by rw [← hwwx2]; simp
          have bx2 := hid (show Below wr.drew.heap.size wr.drew wx2 by rw [← hwwx2]; exact new (bx1.out) _)
          have lwx2 := hid (show Below wx1.heap.size wx1 wx2 by rw [← hwwx2]; exact new (same _) _)
          have hx2 : wx2.cell? ⟨V, 1, none⟩ = some (.slice vs.a vs.n vs.c) := cell_on lwx2.out hx1
          have ea2 : wx2.cell? ⟨wx1.heap.size, 0, none⟩ = some (.int .i64 0) := by rw [← hwwx2]; simp
          have fa2 : wr.heap.size ≤ wx1.heap.size := bx1.out.size
          clear hwwx2 zwx2
          refine Go.Proofs.Ytnodofbpogcheaa.Wl.takeAt (i := 6) (d := some 82) (v := ?va4_6) rfl (by rfl) (by kernel_rfl) (by kernel_rfl) (by kernel_rfl) (fun _ _ _ h => h) (Or.inl ⟨by rfl, ?ya4_6⟩) hS ?_
          case ya4_6 => intro wx hSw; (go_simp) <;> with_reducible rfl
          simp only [Act.put, List.setIfInBounds_toArray, List.set_cons_zero, List.set_cons_succ]
          refine wpAnyH_ready (rs := [7]) (by kernel_rfl) (by simp) ?_
          refine AllReadyH.cons rfl (fun K hK => ?_) AllReadyH.nil
          have ob := bx2.out
          have os := ob.size
          have zs := HST.out.size
          have os2 : W0.heap.size ≤ wx2.heap.size := Nat.le_trans zs os
          clear os zs ob
          obtain ⟨v5, w4, hrun, hown4, hgr4, hat4⟩ := app_gen (w2 := wx2) underGl infoGl rfl (by decide) (by decide) (owns_on (more (Below.drew (same wr)) bx2.out) HST.out.g.own) (by omega) os2 #[.string (nm 103 k), .slice (some ⟨wx1.heap.size, 0, none⟩) 1 1] rfl (by intro x hx; simp at hx; rcases hx with rfl | rfl <;> rfl) 23
          obtain ⟨sv, rfl⟩ := owns_slv hown4
          have hc3 : (World.alloc wx2 (.cells #[.string (nm 103 k), .slice (some ⟨wx1.heap.size, 0, none⟩) 1 1] 48)).cell? ⟨V, 1, none⟩ = some (.slice vs.a vs.n vs.c) := cell_on (new (same _) _) hx2
          have hc4 : w4.cell? ⟨V, 1, none⟩ = some (.slice vs.a vs.n vs.c) := by rw [World.cell?_of_block (w := World.alloc wx2 _) (hgr4.block V (World.block_lt_of_cell? _ _ hc3) NV.out)]; exact hc3
          have fz4 : w4.frozen? ⟨V, 1, none⟩ = false := by rw [World.frozen?_of_block (w := World.alloc wx2 _) (hgr4.block V (World.block_lt_of_cell? _ _ hc3) NV.out), World.frozen?_alloc_old _ _ _ (by have := World.block_lt_of_cell? _ _ hx2; show V ≠ _; simp at this ⊢; omega), bx2.out.frozen (by have := World.block_lt_of_cell? _ _ hcD; simpa using this)]; exact HST.out.fz 1
          go_simp
          refine hK.out _ _ trivial (fun _ => ?_)
          clear hK K
          have hS := True.intro
          try simp only [Act.put, List.setIfInBounds_toArray, List.set_cons_zero, List.set_cons_succ]
          refine wpAnyH_ready (rs := [8]) (by kernel_rfl) (by simp) ?_
          refine AllReadyH.cons rfl (fun K hK => ?_) AllReadyH.nil
          rw [if_pos (by rfl)]
          refine Go.Proofs.Ytnodofbpogcheaa.Wl.wp_app (s := .tmp 77) (x := .tmp 83) (t := 23) (d := some 84) rfl rfl rfl rfl rfl hrun ?_
          try simp only [Act.put, List.setIfInBounds_toArray, List.set_cons_zero, List.set_cons_succ]
          refine hK.out _ _ trivial (fun _ => ?_)
          clear hK K
          have hS := True.intro
          try simp only [Act.put, List.setIfInBounds_toArray, List.set_cons_zero, List.set_cons_succ]
          refine Go.Proofs.Ytnodofbpogcheaa.Wl.takeAt (i := 9) (d := some 85) (v := ?va5_9) rfl (by rfl) (by kernel_rfl) (by kernel_rfl) (by kernel_rfl) (fun _ _ _ h => h) (Or.inl ⟨by rfl, ?ya5_9⟩) hS ?_
          case ya5_9 => intro wx hSw; (go_simp) <;> with_reducible rfl
          simp only [Act.put, List.setIfInBounds_toArray, List.set_cons_zero, List.set_cons_succ]
          refine wpAnyH_ready (rs := [10]) (by kernel_rfl) (by simp) ?_
          refine AllReadyH.cons rfl (fun K hK => ?_) AllReadyH.nil
          go_simp
          refine hK.out _ _ trivial (fun _ => ?_)
          clear hK K
          have hS := True.intro
          try simp only [Act.put, List.setIfInBounds_toArray, List.set_cons_zero, List.set_cons_succ]
          refine wpAnyH_done (by kernel_rfl) ?_ _
          refine NoPanic.normal ?_
          have ea9 := ea2
          obtain ⟨t2, g2⟩ := HST.out.step (stabL _) (a := wx1.heap.size) bx2.out ea9 (fun (b : Nat) hb => by obtain rfl : b = wx1.heap.size := hb; exact ⟨fa2, World.block_lt_of_cell? _ _ ea9⟩) hown4 hgr4 hat4
          have FF := hid g2
          clear g2
          go_wp2_with fail
          go_round
          case rel => exact ⟨k + 1, by omega, by go_num, sv, _, FF.out⟩
          case measure => simp [intOf]; omega
        · go_simp
          refine hK.out _ _ trivial (fun _ => ?_)
          clear hK K
          have hS := True.intro
          try simp only [Act.put, List.setIfInBounds_toArray, List.set_cons_zero, List.set_cons_succ]
          obtain ⟨wx1, hwwx1⟩ : ∃ wq, (World.alloc wr (.cells #[.int .i64 0] 2)).drew = wq := ⟨_, rfl⟩
          rw [hwwx1]
          have zwx1 : wx1.heap.size = wr.drew.heap.size + 1 := by rw [← hwwx1]; simp
          have bx1 := hid (show Below wr.drew.heap.size wr.drew wx1 by rw [← hwwx1]; exact new (bx0.out) _)
          have lwx1 := hid (show Below wr.drew.heap.size wr.drew wx1 by rw [← hwwx1]; exact new (same _) _)
          have hx1 : wx1.cell? ⟨V, 1, none⟩ = some (.slice vs.a vs.n vs.c) := cell_on lwx1.out hcD
          have ea1 : wx1.cell? ⟨wr.heap.size, 0, none⟩ = some (.int .i64 0) := by rw [← hwwx1]; simp
          have fa1 : wr.heap.size ≤ wr.heap.size := bx0.out.size
          clear hwwx1 zwx1
          refine wpAnyH_ready (rs := [3]) (by kernel_rfl) (by simp) ?_
          refine AllReadyH.cons rfl (fun K hK => ?_) AllReadyH.nil
          go_simp
          refine (HC.out _).mono ?_
          rintro e wx2 ⟨rfl, hbN⟩
          have hx2 := cell_on hbN hx1
          have bx2 := hid (View.more bx1.out hbN)
          have ea2 := cell_on hbN ea1
          clear hbN
          go_wp2_with fail
          refine hK.out _ _ trivial (fun _ => ?_)
          clear hK K
          have hS := True.intro
          try simp only [Act.put, List.setIfInBounds_toArray, List.set_cons_zero, List.set_cons_succ]
          refine Go.Proofs.Ytnodofbpogcheaa.Wl.takeAt (i := 4) (d := some 80) (v := ?va6_4) rfl (by rfl) (by kernel_rfl) (by kernel_rfl) (by kernel_rfl) (fun _ _ _ h => h) (Or.inl ⟨by rfl, ?ya6_4⟩) hS ?_
          case ya6_4 => intro wx hSw; (go_simp) <;> with_reducible rfl
          simp only [Act.put, List.setIfInBounds_toArray, List.set_cons_zero, List.set_cons_succ]
          refine Go.Proofs.Ytnodofbpogcheaa.Wl.takeAt (i := 6) (d := some 82) (v := ?va7_6) rfl (by rfl) (by kernel_rfl) (by kernel_rfl) (by kernel_rfl) (fun _ _ _ h => h) (Or.inl ⟨by rfl, ?ya7_6⟩) hS ?_
          case ya7_6 => intro wx hSw; (go_simp) <;> with_reducible rfl
          simp only [Act.put, List.setIfInBounds_toArray, List.set_cons_zero, List.set_cons_succ]
          refine wpAnyH_ready (rs := [7]) (by kernel_rfl) (by simp) ?_
          refine AllReadyH.cons rfl (fun K hK => ?_) AllReadyH.nil
          have ob := bx2.out
          have os := ob.size
          have zs := HST.out.size
          have os2 : W0.heap.size ≤ wx2.heap.size := Nat.le_trans zs os
          clear os zs ob
          obtain ⟨v5, w4, hrun, hown4, hgr4, hat4⟩ := app_gen (w2 := wx2) underGl infoGl rfl (by decide) (by decide) (owns_on (more (Below.drew (same wr)) bx2.out) HST.out.g.own) (by omega) os2 #[.string (nm 103 k), .slice (some ⟨wr.heap.size, 0, none⟩) 1 1] rfl (by intro x hx; simp at hx; rcases hx with rfl | rfl <;> rfl) 23
          obtain ⟨sv, rfl⟩ := owns_slv hown4
          have hc3 : (World.alloc wx2 (.cells #[.string (nm 103 k), .slice (some ⟨wr.heap.size, 0, none⟩) 1 1] 48)).cell? ⟨V, 1, none⟩ = some (.slice vs.a vs.n vs.c) := cell_on (new (same _) _) hx2
          have hc4 : w4.cell? ⟨V, 1, none⟩ = some (.slice vs.a vs.n vs.c) := by rw [World.cell?_of_block (w := World.alloc wx2 _) (hgr4.block V (World.block_lt_of_cell? _ _ hc3) NV.out)]; exact hc3
          have fz4 : w4.frozen? ⟨V, 1, none⟩ = false := by rw [World.frozen?_of_block (w := World.alloc wx2 _) (hgr4.block V (World.block_lt_of_cell? _ _ hc3) NV.out), World.frozen?_alloc_old _ _ _ (by have := World.block_lt_of_cell? _ _ hx2; show V ≠ _; simp at this ⊢; omega), bx2.out.frozen (by have := World.block_lt_of_cell? _ _ hcD; simpa using this)]; exact HST.out.fz 1
          go_simp
          refine hK.out _ _ trivial (fun _ => ?_)
          clear hK K
          have hS := True.intro
          try simp only [Act.put, List.setIfInBounds_toArray, List.set_cons_zero, List.set_cons_succ]
          refine wpAnyH_ready (rs := [8]) (by kernel_rfl) (by simp) ?_
          refine AllReadyH.cons rfl (fun K hK => ?_) AllReadyH.nil
          rw [if_pos (by rfl)]
          refine Go.Proofs.Ytnodofbpogcheaa.Wl.wp_app (s := .tmp 77) (x := .tmp 83) (t := 23) (d := some 84) rfl rfl rfl rfl rfl hrun ?_
          try simp only [Act.put, List.setIfInBounds_toArray, List.set_cons_zero, List.set_cons_succ]
          refine hK.out _ _ trivial (fun _ => ?_)
          clear hK K
          have hS := True.intro
          try simp only [Act.put, List.setIfInBounds_toArray, List.set_cons_zero, List.set_cons_succ]
          refine Go.Proofs.Ytnodofbpogcheaa.Wl.takeAt (i := 9) (d := some 85) (v := ?va8_9) rfl (by rfl) (by kernel_rfl) (by kernel_rfl) (by kernel_rfl) (fun _ _ _ h => h) (Or.inl ⟨by rfl, ?ya8_9⟩) hS ?_
          case ya8_9 => intro wx hSw; (go_simp) <;> with_reducible rfl
          simp only [Act.put, List.setIfInBounds_toArray, List.set_cons_zero, List.set_cons_succ]
          refine wpAnyH_ready (rs := [10]) (by kernel_rfl) (by simp) ?_
          refine AllReadyH.cons rfl (fun K hK => ?_) AllReadyH.nil
          go_simp
          refine hK.out _ _ trivial (fun _ => ?_)
          clear hK K
          have hS := True.intro
          try simp only [Act.put, List.setIfInBounds_toArray, List.set_cons_zero, List.set_cons_succ]
          refine wpAnyH_done (by kernel_rfl) ?_ _
          refine NoPanic.normal ?_
          have ea9 := ea2
          obtain ⟨t2, g2⟩ := HST.out.step (stabL _) (a := wr.heap.size) bx2.out ea9 (fun (b : Nat) hb => by obtain rfl : b = wr.heap.size := hb; exact ⟨fa1, World.block_lt_of_cell? _ _ ea9⟩) hown4 hgr4 hat4
          have FF := hid g2
          clear g2
          go_wp2_with fail
          go_round
          case rel => exact ⟨k + 1, by omega, by go_num, sv, _, FF.out⟩
          case measure => simp [intOf]; omega
      · go_simp
        refine (HC.out _).mono ?_
        rintro e wx1 ⟨rfl, hbN⟩
        have hx1 := cell_on hbN hcD
        have bx1 := hid (View.more bx0.out hbN)
        clear hbN
        go_wp2_with fail
        refine hK.out _ _ trivial (fun _ => ?_)
        clear hK K
        have hS := True.intro
        try simp only [Act.put, List.setIfInBounds_toArray, List.set_cons_zero, List.set_cons_succ]
        refine Go.Proofs.Ytnodofbpogcheaa.Wl.takeAt (i := 4) (d := some 80) (v := ?va9_4) rfl (by rfl) (by kernel_rfl) (by kernel_rfl) (by kernel_rfl) (fun _ _ _ h => h) (Or.inl ⟨by rfl, ?ya9_4⟩) hS ?_
        case ya9_4 => intro wx hSw; (go_simp) <;> with_reducible rfl
        simp only [Act.put, List.setIfInBounds_toArray, List.set_cons_zero, List.set_cons_succ]
        refine wpAnyH_ready (rs := [1, 5]) (by kernel_rfl) (by simp) ?_
        refine AllReadyH.cons rfl (fun K hK => ?_) (AllReadyH.cons rfl (fun K hK => ?_) AllReadyH.nil)
        · go_simp
          refine hK.out _ _ trivial (fun _ => ?_)
          clear hK K
          have hS := True.intro
          try simp only [Act.put, List.setIfInBounds_toArray, List.set_cons_zero, List.set_cons_succ]
          refine wpAnyH_ready (rs := [5]) (by kernel_rfl) (by simp) ?_
          refine AllReadyH.cons rfl (fun K hK => ?_) AllReadyH.nil
          go_simp
          refine hK.out _ _ trivial (fun _ => ?_)
          clear hK K
          have hS := True.intro
          try simp only [Act.put, List.setIfInBounds_toArray, List.set_cons_zero, List.set_cons_succ]
          obtain ⟨wx2, hwwx2⟩ : ∃ wq, World.alloc wx1 (.cells #[.int .i64 0] 2) = wq := ⟨_, rfl⟩
          rw [hwwx2]
          have zwx2 : wx2.heap.size = wx1.heap.size + 1 := by rw [← hwwx2]; simp
          have bx2 := hid (show Below wr.drew.heap.size wr.drew wx2 by rw [← hwwx2]; exact new (bx1.out) _)
          have lwx2 := hid (show Below wx1.heap.size wx1 wx2 by rw [← hwwx2]; exact new (same _) _)
          have hx2 : wx2.cell? ⟨V, 1, none⟩ = some (.slice vs.a vs.n vs.c) := cell_on lwx2.out hx1
          have ea2 : wx2.cell? ⟨wx1.heap.size, 0, none⟩ = some (.int .i64 0) := by rw [← hwwx2]; simp
          have fa2 : wr.heap.size ≤ wx1.heap.size := bx1.out.size
          clear hwwx2 zwx2
          refine Go.Proofs.Ytnodofbpogcheaa.Wl.takeAt (i := 6) (d := some 82) (v := ?va10_6) rfl (by rfl) (by kernel_rfl) (by kernel_rfl) (by kernel_rfl) (fun _ _ _ h => h) (Or.inl ⟨by rfl, ?ya10_6⟩) hS ?_
          case ya10_6 => intro wx hSw; (go_simp) <;> with_reducible rfl
          simp only [Act.put, List.setIfInBounds_toArray, List.set_cons_zero, List.set_cons_succ]
          refine wpAnyH_ready (rs := [7]) (by kernel_rfl) (by simp) ?_
          refine AllReadyH.cons rfl (fun K hK => ?_) AllReadyH.nil
          have ob := bx2.out
          have os := ob.size
          have zs := HST.out.size
          have os2 : W0.heap.size ≤ wx2.heap.size := Nat.le_trans zs os
          clear os zs ob
          obtain ⟨v5, w4, hrun, hown4, hgr4, hat4⟩ := app_gen (w2 := wx2) underGl infoGl rfl (by decide) (by decide) (owns_on (more (Below.drew (same wr)) bx2.out) HST.out.g.own) (by omega) os2 #[.string (nm 103 k), .slice (some ⟨wx1.heap.size, 0, none⟩) 1 1] rfl (by intro x hx; simp at hx; rcases hx with rfl | rfl <;> rfl) 23
          obtain ⟨sv, rfl⟩ := owns_slv hown4
          have hc3 : (World.alloc wx2 (.cells #[.string (nm 103 k), .slice (some ⟨wx1.heap.size, 0, none⟩) 1 1] 48)).cell? ⟨V, 1, none⟩ = some (.slice vs.a vs.n vs.c) := cell_on (new (same _) _) hx2
          have hc4 : w4.cell? ⟨V, 1, none⟩ = some (.slice vs.a vs.n vs.c) := by rw [World.cell?_of_block (w := World.alloc wx2 _) (hgr4.block V (World.block_lt_of_cell? _ _ hc3) NV.out)]; exact hc3
          have fz4 : w4.frozen? ⟨V, 1, none⟩ = false := by rw [World.frozen?_of_block (w := World.alloc wx2 _) (hgr4.block V (World.block_lt_of_cell? _ _ hc3) NV.out), World.frozen?_alloc_old _ _ _ (by have := World.block_lt_of_cell? _ _ hx2; show V ≠ _; simp at this ⊢; omega), bx2.out.frozen (by have := World.block_lt_of_cell? _ _ hcD; simpa using this)]; exact HST.out.fz 1
          go_simp
          refine hK.out _ _ trivial (fun _ => ?_)
          clear hK K
          have hS := True.intro
          try simp only [Act.put, List.setIfInBounds_toArray, List.set_cons_zero, List.set_cons_succ]
          refine wpAnyH_ready (rs := [8]) (by kernel_rfl) (by simp) ?_
          refine AllReadyH.cons rfl (fun K hK => ?_) AllReadyH.nil
          rw [if_pos (by rfl)]
          refine Go.Proofs.Ytnodofbpogcheaa.Wl.wp_app (s := .tmp 77) (x := .tmp 83) (t := 23) (d := some 84) rfl rfl rfl rfl rfl hrun ?_
          try simp only [Act.put, List.setIfInBounds_toArray, List.set_cons_zero, List.set_cons_succ]
          refine hK.out _ _ trivial (fun _ => ?_)
          clear hK K
          have hS := True.intro
          try simp only [Act.put, List.setIfInBounds_toArray, List.set_cons_zero, List.set_cons_succ]
          refine Go.Proofs.Ytnodofbpogcheaa.Wl.takeAt (i := 9) (d := some 85) (v := ?va11_9) rfl (by rfl) (by kernel_rfl) (by kernel_rfl) (by kernel_rfl) (fun _ _ _ h => h) (Or.inl ⟨by rfl, ?ya11_9⟩) hS ?_
          case ya11_9 => intro wx hSw; (go_simp) <;> with_reducible rfl
          simp only [Act.put, List.setIfInBounds_toArray, List.set_cons_zero, List.set_cons_succ]
          refine wpAnyH_ready (rs := [10]) (by kernel_rfl) (by simp) ?_
          refine AllReadyH.cons rfl (fun K hK => ?_) AllReadyH.nil
          go_simp
          refine hK.out _ _ trivial (fun _ => ?_)
          clear hK K
          have hS := True.intro
          try simp only [Act.put, List.setIfInBounds_toArray, List.set_cons_zero, List.set_cons_succ]
          refine wpAnyH_done (by kernel_rfl) ?_ _
          refine NoPanic.normal ?_
          have ea9 := ea2
          obtain ⟨t2, g2⟩ := HST.out.step (stabL _) (a := wx1.heap.size) bx2.out ea9 (fun (b : Nat) hb => by obtain rfl : b = wx1.heap.size := hb; exact ⟨fa2, World.block_lt_of_cell? _ _ ea9⟩) hown4 hgr4 hat4
          have FF := hid g2
          clear g2
          go_wp2_with fail
          go_round
          case rel => exact ⟨k + 1, by omega, by go_num, sv, _, FF.out⟩
          case measure => simp [intOf]; omega
        · go_simp
          refine hK.out _ _ trivial (fun _ => ?_)
          clear hK K
          have hS := True.intro
          try simp only [Act.put, List.setIfInBounds_toArray, List.set_cons_zero, List.set_cons_succ]
          obtain ⟨wx2, hwwx2⟩ : ∃ wq, World.alloc wx1 (.cells #[.int .i64 0] 2) = wq := ⟨_, rfl⟩
          rw [hwwx2]
          have zwx2 : wx2.heap.size = wx1.heap.size + 1 := by rw [← hwwx2]; simp
          have bx2 := hid (show Below wr.drew.heap.size wr.drew wx2 by rw [← hwwx2]; exact new (bx1.out) _)
          have lwx2 := hid (show Below wx1.heap.size wx1 wx2 by rw [← hwwx2]; exact new (same _) _)
          have hx2 : wx2.cell? ⟨V, 1, none⟩ = some (.slice vs.a vs.n vs.c) := cell_on lwx2.out hx1
          have ea2 : wx2.cell? ⟨wx1.heap.size, 0, none⟩ = some (.int .i64 0) := by rw [← hwwx2]; simp
          have fa2 : wr.heap.size ≤ wx1.heap.size := bx1.out.size
          clear hwwx2 zwx2
          refine Go.Proofs.Ytnodofbpogcheaa.Wl.takeAt (i := 6) (d := some 82) (v := ?va12_6) rfl (by rfl) (by kernel_rfl) (by kernel_rfl) (by kernel_rfl) (fun _ _ _ h => h) (Or.inl ⟨by rfl, ?ya12_6⟩) hS ?_
          case ya12_6 => intro wx hSw; (go_simp) <;> with_reducible rfl
          simp only [Act.put, List.setIfInBounds_toArray, List.set_cons_zero, List.set_cons_succ]
          refine wpAnyH_ready (rs := [1, 7]) (by kernel_rfl) (by simp) ?_
          refine AllReadyH.cons rfl (fun K hK => ?_) (AllReadyH.cons rfl (fun K hK => ?_) AllReadyH.nil)
          · go_simp
            refine hK.out _ _ trivial (fun _ => ?_)
            clear hK K
            have hS := True.intro
            try simp only [Act.put, List.setIfInBounds_toArray, List.set_cons_zero, List.set_cons_succ]
            refine wpAnyH_ready (rs := [7]) (by kernel_rfl) (by simp) ?_
            refine AllReadyH.cons rfl (fun K hK => ?_) AllReadyH.nil
            have ob := bx2.out
            have os := ob.size
            have zs := HST.out.size
            have os2 : W0.heap.size ≤ wx2.heap.size := Nat.le_trans zs os
            clear os zs ob
            obtain ⟨v5, w4, hrun, hown4, hgr4, hat4⟩ := app_gen (w2 := wx2) underGl infoGl rfl (by decide) (by decide) (owns_on (more (Below.drew (same wr)) bx2.out) HST.out.g.own) (by omega) os2 #[.string (nm 103 k), .slice (some ⟨wx1.heap.size, 0, none⟩) 1 1] rfl (by intro x hx; simp at hx; rcases hx with rfl | rfl <;> rfl) 23
            obtain ⟨sv, rfl⟩ := owns_slv hown4
            have hc3 : (World.alloc wx2 (.cells #[.string (nm 103 k), .slice (some ⟨wx1.heap.size, 0, none⟩) 1 1] 48)).cell? ⟨V, 1, none⟩ = some (.slice vs.a vs.n vs.c) := cell_on (new (same _) _) hx2
            have hc4 : w4.cell? ⟨V, 1, none⟩ = some (.slice vs.a vs.n vs.c) := by rw [World.cell?_of_block (w := World.alloc wx2 _) (hgr4.block V (World.block_lt_of_cell? _ _ hc3) NV.out)]; exact hc3
            have fz4 : w4.frozen? ⟨V, 1, none⟩ = false := by rw [World.frozen?_of_block (w := World.alloc wx2 _) (hgr4.block V (World.block_lt_of_cell? _ _ hc3) NV.out), World.frozen?_alloc_old _ _ _ (by have := World.block_lt_of_cell? _ _ hx2; show V ≠ _; simp at this ⊢; omega), bx2.out.frozen (by have := World.block_lt_of_cell? _ _ hcD; simpa using this)]; exact HST.out.fz 1
            go_simp
            refine hK.out _ _ trivial (fun _ => ?_)
            clear hK K
            have hS := True.intro
            try simp only [Act.put, List.setIfInBounds_toArray, List.set_cons_zero, List.set_cons_succ]
            refine wpAnyH_ready (rs := [8]) (by kernel_rfl) (by simp) ?_
            refine AllReadyH.cons rfl (fun K hK => ?_) AllReadyH.nil
            rw [if_pos (by rfl)]
            refine Go.Proofs.Ytnodofbpogcheaa.Wl.wp_app (s := .tmp 77) (x := .tmp 83) (t := 23) (d := some 84) rfl rfl rfl rfl rfl hrun ?_
            try simp only [Act.put, List.setIfInBounds_toArray, List.set_cons_zero, List.set_cons_succ]
            refine hK.out _ _ trivial (fun _ => ?_)
            clear hK K
            have hS := True.intro
            try simp only [Act.put, List.setIfInBounds_toArray, List.set_cons_zero, List.set_cons_succ]
            refine Go.Proofs.Ytnodofbpogcheaa.Wl.takeAt (i := 9) (d := some 85) (v := ?va13_9) rfl (by rfl) (by kernel_rfl) (by kernel_rfl) (by kernel_rfl) (fun _ _ _ h => h) (Or.inl ⟨by rfl, ?ya13_9⟩) hS ?_
            case ya13_9 => intro wx hSw; (go_simp) <;> with_reducible rfl
            simp only [Act.put, List.setIfInBounds_toArray, List.set_cons_zero, List.set_cons_succ]
            refine wpAnyH_ready (rs := [10]) (by kernel_rfl) (by simp) ?_
            refine AllReadyH.cons rfl (fun K hK => ?_) AllReadyH.nil
            go_simp
            refine hK.out _ _ trivial (fun _ => ?_)
            clear hK K
            have hS := True.intro
            try simp only [Act.put, List.setIfInBounds_toArray, List.set_cons_zero, List.set_cons_succ]
            refine wpAnyH_done (by kernel_rfl) ?_ _
            refine NoPanic.normal ?_
            have ea9 := ea2
            obtain ⟨t2, g2⟩ := HST.out.step (stabL _) (a := wx1.heap.size) bx2.out ea9 (fun (b : Nat) hb => by obtain rfl : b = wx1.heap.size := hb; exact ⟨fa2, World.block_lt_of_cell? _ _ ea9⟩) hown4 hgr4 hat4
            have FF := hid g2
            clear g2
            go_wp2_with fail
            go_round
            case rel => exact ⟨k + 1, by omega, by go_num, sv, _, FF.out⟩
            case measure => simp [intOf]; omega
          · have ob := bx2.out
            have os := ob.size
            have zs := HST.out.size
            have os2 : W0.heap.size ≤ wx2.heap.size := Nat.le_trans zs os
            clear os zs ob
            obtain ⟨v5, w4, hrun, hown4, hgr4, hat4⟩ := app_gen (w2 := wx2) underGl infoGl rfl (by decide) (by decide) (owns_on (more (Below.drew (same wr)) bx2.out) HST.out.g.own) (by omega) os2 #[.string (nm 103 k), .slice (some ⟨wx1.heap.size, 0, none⟩) 1 1] rfl (by intro x hx; simp at hx; rcases hx with rfl | rfl <;> rfl) 23
            obtain ⟨sv, rfl⟩ := owns_slv hown4
            have hc3 : (World.alloc wx2 (.cells #[.string (nm 103 k), .slice (some ⟨wx1.heap.size, 0, none⟩) 1 1] 48)).cell? ⟨V, 1, none⟩ = some (.slice vs.a vs.n vs.c) := cell_on (new (same _) _) hx2
            have hc4 : w4.cell? ⟨V, 1, none⟩ = some (.slice vs.a vs.n vs.c) := by rw [World.cell?_of_block (w := World.alloc wx2 _) (hgr4.block V (World.block_lt_of_cell? _ _ hc3) NV.out)]; exact hc3
            have fz4 : w4.frozen? ⟨V, 1, none⟩ = false := by rw [World.frozen?_of_block (w := World.alloc wx2 _) (hgr4.block V (World.block_lt_of_cell? _ _ hc3) NV.out), World.frozen?_alloc_old _ _ _ (by have := World.block_lt_of_cell? _ _ hx2; show V ≠ _; simp at this ⊢; omega), bx2.out.frozen (by have := World.block_lt_of_cell? _ _ hcD; simpa using this)]; exact HST.out.fz 1
            go_simp
            refine hK.out _ _ trivial (fun _ => ?_)
            clear hK K
            have hS := True.intro
            try simp only [Act.put, List.setIfInBounds_toArray, List.set_cons_zero, List.set_cons_succ]
            refine wpAnyH_ready (rs := [1]) (by kernel_rfl) (by simp) ?_
            refine AllReadyH.cons rfl (fun K hK => ?_) AllReadyH.nil
            go_simp
            refine hK.out _ _ trivial (fun _ => ?_)
            clear hK K
            have hS := True.intro
            try simp only [Act.put, List.setIfInBounds_toArray, List.set_cons_zero, List.set_cons_succ]
            refine wpAnyH_ready (rs := [8]) (by kernel_rfl) (by simp) ?_
            refine AllReadyH.cons rfl (fun K hK => ?_) AllReadyH.nil
            rw [if_pos (by rfl)]
            refine Go.Proofs.Ytnodofbpogcheaa.Wl.wp_app (s := .tmp 77) (x := .tmp 83) (t := 23) (d := some 84) rfl rfl rfl rfl rfl hrun ?_
            try simp only [Act.put, List.setIfInBounds_toArray, List.set_cons_zero, List.set_cons_succ]
            refine hK.out _ _ trivial (fun _ => ?_)
            clear hK K
            have hS := True.intro
            try simp only [Act.put, List.setIfInBounds_toArray, List.set_cons_zero, List.set_cons_succ]
            refine Go.Proofs.Ytnodofbpogcheaa.Wl.takeAt (i := 9) (d := some 85) (v := ?va14_9) rfl (by rfl) (by kernel_rfl) (by kernel_rfl) (by kernel_rfl) (fun _ _ _ h => h) (Or.inl ⟨by rfl, ?ya14_9⟩) hS ?_
            case ya14_9 => intro wx hSw; (go_simp) <;> with_reducible rfl
            simp only [Act.put, List.setIfInBounds_toArray, List.set_cons_zero, List.set_cons_succ]
            refine wpAnyH_ready (rs := [10]) (by kernel_rfl) (by simp) ?_
            refine AllReadyH.cons rfl (fun K hK => ?_) AllReadyH.nil
            go_simp
            refine hK.out _ _ trivial (fun _ => ?_)
            clear hK K
            have hS := True.intro
            try simp only [Act.put, List.setIfInBounds_toArray, List.set_cons_zero, List.set_cons_succ]
            refine wpAnyH_done (by kernel_rfl) ?_ _
            refine NoPanic.normal ?_
            have ea9 := ea2
            obtain ⟨t2, g2⟩ := HST.out.step (stabL _) (a := wx1.heap.size) bx2.out ea9 (fun (b : Nat) hb => by obtain rfl : b = wx1.heap.size := hb; exact ⟨fa2, World.block_lt_of_cell? _ _ ea9⟩) hown4 hgr4 hat4
            have FF := hid g2
            clear g2
            go_wp2_with fail
            go_round
            case rel => exact ⟨k + 1, by omega, by go_num, sv, _, FF.out⟩
            case measure => simp [intOf]; omega
      · go_simp
        refine hK.out _ _ trivial (fun _ => ?_)
        clear hK K
        have hS := True.intro
        try simp only [Act.put, List.setIfInBounds_toArray, List.set_cons_zero, List.set_cons_succ]
        obtain ⟨wx1, hwwx1⟩ : ∃ wq, (World.alloc wr (.cells #[.int .i64 0] 2)).drew = wq := ⟨_, rfl⟩
        rw [hwwx1]
        have zwx1 : wx1.heap.size = wr.drew.heap.size + 1 := by rw [← hwwx1]; simp
        have bx1 := hid (show Below wr.drew.heap.size wr.drew wx1 by rw [← hwwx1]; exact new (bx0.out) _)
        have lwx1 := hid (show Below wr.drew.heap.size wr.drew wx1 by rw [← hwwx1]; exact new (same _) _)
        have hx1 : wx1.cell? ⟨V, 1, none⟩ = some (.slice vs.a vs.n vs.c) := cell_on lwx1.out hcD
        have ea1 : wx1.cell? ⟨wr.heap.size, 0, none⟩ = some (.int .i64 0) := by rw [← hwwx1]; simp
        have fa1 : wr.heap.size ≤ wr.heap.size := bx0.out.size
        clear hwwx1 zwx1
        refine wpAnyH_ready (rs := [1, 3]) (by kernel_rfl) (by simp) ?_
        refine AllReadyH.cons rfl (fun K hK => ?_) (AllReadyH.cons rfl (fun K hK => ?_) AllReadyH.nil)
        · go_simp
          refine hK.out _ _ trivial (fun _ => ?_)
          clear hK K
          have hS := True.intro
          try simp only [Act.put, List.setIfInBounds_toArray, List.set_cons_zero, List.set_cons_succ]
          refine wpAnyH_ready (rs := [3]) (by kernel_rfl) (by simp) ?_
          refine AllReadyH.cons rfl (fun K hK => ?_) AllReadyH.nil
          go_simp
          refine (HC.out _).mono ?_
          rintro e wx2 ⟨rfl, hbN⟩
          have hx2 := cell_on hbN hx1
          have bx2 := hid (View.more bx1.out hbN)
          have ea2 := cell_on hbN ea1
          clear hbN
          go_wp2_with fail
          refine hK.out _ _ trivial (fun _ => ?_)
          clear hK K
          have hS := True.intro
          try simp only [Act.put, List.setIfInBounds_toArray, List.set_cons_zero, List.set_cons_succ]
          refine Go.Proofs.Ytnodofbpogcheaa.Wl.takeAt (i := 4) (d := some 80) (v := ?va15_4) rfl (by rfl) (by kernel_rfl) (by kernel_rfl) (by kernel_rfl) (fun _ _ _ h => h) (Or.inl ⟨by rfl, ?ya15_4⟩) hS ?_
          case ya15_4 => intro wx hSw; (go_simp) <;> with_reducible rfl
          simp only [Act.put, List.setIfInBounds_toArray, List.set_cons_zero, List.set_cons_succ]
          refine Go.Proofs.Ytnodofbpogcheaa.Wl.takeAt (i := 6) (d := some 82) (v := ?va16_6) rfl (by rfl) (by kernel_rfl) (by kernel_rfl) (by kernel_rfl) (fun _ _ _ h => h) (Or.inl ⟨by rfl, ?ya16_6⟩) hS ?_
          case ya16_6 => intro wx hSw; (go_simp) <;> with_reducible rfl
          simp only [Act.put, List.setIfInBounds_toArray, List.set_cons_zero, List.set_cons_succ]
          refine wpAnyH_ready (rs := [7]) (by kernel_rfl) (by simp) ?_
          refine AllReadyH.cons rfl (fun K hK => ?_) AllReadyH.nil
          have ob := bx2.out
          have os := ob.size
          have zs := HST.out.size
          have os2 : W0.heap.size ≤ wx2.heap.size := Nat.le_trans zs os
          clear os zs ob
          obtain ⟨v5, w4, hrun, hown4, hgr4, hat4⟩ := app_gen (w2 := wx2) underGl infoGl rfl (by decide) (by decide) (owns_on (more (Below.drew (same wr)) bx2.out) HST.out.g.own) (by omega) os2 #[.string (nm 103 k), .slice (some ⟨wr.heap.size, 0, none⟩) 1 1] rfl (by intro x hx; simp at hx; rcases hx with rfl | rfl <;> rfl) 23
          obtain ⟨sv, rfl⟩ := owns_slv hown4
          have hc3 : (World.alloc wx2 (.cells #[.string (nm 103 k), .slice (some ⟨wr.heap.size, 0, none⟩) 1 1] 48)).cell? ⟨V, 1, none⟩ = some (.slice vs.a vs.n vs.c) := cell_on (new (same _) _) hx2
          have hc4 : w4.cell? ⟨V, 1, none⟩ = some (.slice vs.a vs.n vs.c) := by rw [World.cell?_of_block (w := World.alloc wx2 _) (hgr4.block V (World.block_lt_of_cell? _ _ hc3) NV.out)]; exact hc3
          have fz4 : w4.frozen? ⟨V, 1, none⟩ = false := by rw [World.frozen?_of_block (w := World.alloc wx2 _) (hgr4.block V (World.block_lt_of_cell? _ _ hc3) NV.out), World.frozen?_alloc_old _ _ _ (by have := World.block_lt_of_cell? _ _ hx2; show V ≠ _; simp at this ⊢; omega), bx2.out.frozen (by have := World.block_lt_of_cell? _ _ hcD; simpa using this)]; exact HST.out.fz 1
          go_simp
          refine hK.out _ _ trivial (fun _ => ?_)
          clear hK K
          have hS := True.intro
          try simp only [Act.put, List.setIfInBounds_toArray, List.set_cons_zero, List.set_cons_succ]
          refine wpAnyH_ready (rs := [8]) (by kernel_rfl) (by simp) ?_
          refine AllReadyH.cons rfl (fun K hK => ?_) AllReadyH.nil
          rw [if_pos (by rfl)]
          refine Go.Proofs.Ytnodofbpogcheaa.Wl.wp_app (s := .tmp 77) (x := .tmp 83) (t := 23) (d := some 84) rfl rfl rfl rfl rfl hrun ?_
          try simp only [Act.put, List.setIfInBounds_toArray, List.set_cons_zero, List.set_cons_succ]
          refine hK.out _ _ trivial (fun _ => ?_)
          clear hK K
          have hS := True.intro
          try simp only [Act.put, List.setIfInBounds_toArray, List.set_cons_zero, List.set_cons_succ]
          refine Go.Proofs.Ytnodofbpogcheaa.Wl.takeAt (i := 9) (d := some 85) (v := ?va17_9) rfl (by rfl) (by kernel_rfl) (by kernel_rfl) (by kernel_rfl) (fun _ _ _ h => h) (Or.inl ⟨by rfl, ?ya17_9⟩) hS ?_
          case ya17_9 => intro wx hSw; (go_simp) <;> with_reducible rfl
          simp only [Act.put, List.setIfInBounds_toArray, List.set_cons_zero, List.set_cons_succ]
          refine wpAnyH_ready (rs := [10]) (by kernel_rfl) (by simp) ?_
          refine AllReadyH.cons rfl (fun K hK => ?_) AllReadyH.nil
          go_simp
          refine hK.out _ _ trivial (fun _ => ?_)
          clear hK K
          have hS := True.intro
          try simp only [Act.put, List.setIfInBounds_toArray, List.set_cons_zero, List.set_cons_succ]
          refine wpAnyH_done (by kernel_rfl) ?_ _
          refine NoPanic.normal ?_
          have ea9 := ea2
          obtain ⟨t2, g2⟩ := HST.out.step (stabL _) (a := wr.heap.size) bx2.out ea9 (fun (b : Nat) hb => by obtain rfl : b = wr.heap.size := hb; exact ⟨fa1, World.block_lt_of_cell? _ _ ea9⟩) hown4 hgr4 hat4
          have FF := hid g2
          clear g2
          go_wp2_with fail
          go_round
          case rel => exact ⟨k + 1, by omega, by go_num, sv, _, FF.out⟩
          case measure => simp [intOf]; omega
        · go_simp
          refine (HC.out _).mono ?_
          rintro e wx2 ⟨rfl, hbN⟩
          have hx2 := cell_on hbN hx1
          have bx2 := hid (View.more bx1.out hbN)
          have ea2 := cell_on hbN ea1
          clear hbN
          go_wp2_with fail
          refine hK.out _ _ trivial (fun _ => ?_)
          clear hK K
          have hS := True.intro
          try simp only [Act.put, List.setIfInBounds_toArray, List.set_cons_zero, List.set_cons_succ]
          refine Go.Proofs.Ytnodofbpogcheaa.Wl.takeAt (i := 4) (d := some 80) (v := ?va18_4) rfl (by rfl) (by kernel_rfl) (by kernel_rfl) (by kernel_rfl) (fun _ _ _ h => h) (Or.inl ⟨by rfl, ?ya18_4⟩) hS ?_
          case ya18_4 => intro wx hSw; (go_simp) <;> with_reducible rfl
          simp only [Act.put, List.setIfInBounds_toArray, List.set_cons_zero, List.set_cons_succ]
          refine Go.Proofs.Ytnodofbpogcheaa.Wl.takeAt (i := 6) (d := some 82) (v := ?va19_6) rfl (by rfl) (by kernel_rfl) (by kernel_rfl) (by kernel_rfl) (fun _ _ _ h => h) (Or.inl ⟨by rfl, ?ya19_6⟩) hS ?_
          case ya19_6 => intro wx hSw; (go_simp) <;> with_reducible rfl
          simp only [Act.put, List.setIfInBounds_toArray, List.set_cons_zero, List.set_cons_succ]
          refine wpAnyH_ready (rs := [1, 7]) (by kernel_rfl) (by simp) ?_
          refine AllReadyH.cons rfl (fun K hK => ?_) (AllReadyH.cons rfl (fun K hK => ?_) AllReadyH.nil)
          · go_simp
            refine hK.out _ _ trivial (fun _ => ?_)
            clear hK K
            have hS := True.intro
            try simp only [Act.put, List.setIfInBounds_toArray, List.set_cons_zero, List.set_cons_succ]
            refine wpAnyH_ready (rs := [7]) (by kernel_rfl) (by simp) ?_
            refine AllReadyH.cons rfl (fun K hK => ?_) AllReadyH.nil
            have ob := bx2.out
            have os := ob.size
            have zs := HST.out.size
            have os2 : W0.heap.size ≤ wx2.heap.size := Nat.le_trans zs os
            clear os zs ob
            obtain ⟨v5, w4, hrun, hown4, hgr4, hat4⟩ := app_gen (w2 := wx2) underGl infoGl rfl (by decide) (by decide) (owns_on (more (Below.drew (same wr)) bx2.out) HST.out.g.own) (by omega) os2 #[.string (nm 103 k), .slice (some ⟨wr.heap.size, 0, none⟩) 1 1] rfl (by intro x hx; simp at hx; rcases hx with rfl | rfl <;> rfl) 23
            obtain ⟨sv, rfl⟩ := owns_slv hown4
            have hc3 : (World.alloc wx2 (.cells #[.string (nm 103 k), .slice (some ⟨wr.heap.size, 0, none⟩) 1 1] 48)).cell? ⟨V, 1, none⟩ = some (.slice vs.a vs.n vs.c) := cell_on (new (same _) _) hx2
            have hc4 : w4.cell? ⟨V, 1, none⟩ = some (.slice vs.a vs.n vs.c) := by rw [World.cell?_of_block (w := World.alloc wx2 _) (hgr4.block V (World.block_lt_of_cell? _ _ hc3) NV.out)]; exact hc3
            have fz4 : w4.frozen? ⟨V, 1, none⟩ = false := by rw [World.frozen?_of_block (w := World.alloc wx2 _) (hgr4.block V (World.block_lt_of_cell? _ _ hc3) NV.out), World.frozen?_alloc_old _ _ _ (by have := World.block_lt_of_cell? _ _ hx2; show V ≠ _; simp at this ⊢; omega), bx2.out.frozen (by have := World.block_lt_of_cell? _ _ hcD; simpa using this)]; exact HST.out.fz 1
            go_simp
            refine hK.out _ _ trivial (fun _ => ?_)
            clear hK K
            have hS := True.intro
            try simp only [Act.put, List.setIfInBounds_toArray, List.set_cons_zero, List.set_cons_succ]
            refine wpAnyH_ready (rs := [8]) (by kernel_rfl) (by simp) ?_
            refine AllReadyH.cons rfl (fun K hK => ?_) AllReadyH.nil
            rw [if_pos (by rfl)]
            refine Go.Proofs.Ytnodofbpogcheaa.Wl.wp_app (s := .tmp 77) (x := .tmp 83) (t := 23) (d := some 84) rfl rfl rfl rfl rfl hrun ?_
            try simp only [Act.put, List.setIfInBounds_toArray, List.set_cons_zero, List.set_cons_succ]
            refine hK.out _ _ trivial (fun _ => ?_)
            clear hK K
            have hS := True.intro
            try simp only [Act.put, List.setIfInBounds_toArray, List.set_cons_zero, List.set_cons_succ]
            refine Go.Proofs.Ytnodofbpogcheaa.Wl.takeAt (i := 9) (d := some 85) (v := ?va20_9) rfl (by rfl) (by kernel_rfl) (by kernel_rfl) (by kernel_rfl) (fun _ _ _ h => h) (Or.inl ⟨by rfl, ?ya20_9⟩) hS ?_
            case ya20_9 => intro wx hSw; (go_simp) <;> with_reducible rfl
            simp only [Act.put, List.setIfInBounds_toArray, List.set_cons_zero, List.set_cons_succ]
            refine wpAnyH_ready (rs := [10]) (by kernel_rfl) (by simp) ?_
            refine AllReadyH.cons rfl (fun K hK => ?_) AllReadyH.nil
            go_simp
            refine hK.out _ _ trivial (fun _ => ?_)
            clear hK K
            have hS := True.intro
            try simp only [Act.put, List.setIfInBounds_toArray, List.set_cons_zero, List.set_cons_succ]
            refine wpAnyH_done (by kernel_rfl) ?_ _
            refine NoPanic.normal ?_
            have ea9 := ea2
            obtain ⟨t2, g2⟩ := HST.out.step (stabL _) (a := wr.heap.size) bx2.out ea9 (fun (b : Nat) hb => by obtain rfl : b = wr.heap.size := hb; exact ⟨fa1, World.block_lt_of_cell? _ _ ea9⟩) hown4 hgr4 hat4
            have FF := hid g2
            clear g2
            go_wp2_with fail
            go_round
            case rel => exact ⟨k + 1, by omega, by go_num, sv, _, FF.out⟩
            case measure => simp [intOf]; omega
          · have ob := bx2.out
            have os := ob.size
            have zs := HST.out.size
            have os2 : W0.heap.size ≤ wx2.heap.size := Nat.le_trans zs os
            clear os zs ob
            obtain ⟨v5, w4, hrun, hown4, hgr4, hat4⟩ := app_gen (w2 := wx2) underGl infoGl rfl (by decide) (by decide) (owns_on (more (Below.drew (same wr)) bx2.out) HST.out.g.own) (by omega) os2 #[.string (nm 103 k), .slice (some ⟨wr.heap.size, 0, none⟩) 1 1] rfl (by intro x hx; simp at hx; rcases hx with rfl | rfl <;> rfl) 23
            obtain ⟨sv, rfl⟩ := owns_slv hown4
            have hc3 : (World.alloc wx2 (.cells #[.string (nm 103 k), .slice (some ⟨wr.heap.size, 0, none⟩) 1 1] 48)).cell? ⟨V, 1, none⟩ = some (.slice vs.a vs.n vs.c) := cell_on (new (same _) _) hx2
            have hc4 : w4.cell? ⟨V, 1, none⟩ = some (.slice vs.a vs.n vs.c) := by rw [World.cell?_of_block (w := World.alloc wx2 _) (hgr4.block V (World.block_lt_of_cell? _ _ hc3) NV.out)]; exact hc3
            have fz4 : w4.frozen? ⟨V, 1, none⟩ = false := by rw [World.frozen?_of_block (w := World.alloc wx2 _) (hgr4.block V (World.block_lt_of_cell? _ _ hc3) NV.out), World.frozen?_alloc_old _ _ _ (by have := World.block_lt_of_cell? _ _ hx2; show V ≠ _; simp at this ⊢; omega), bx2.out.frozen (by have := World.block_lt_of_cell? _ _ hcD; simpa using this)]; exact HST.out.fz 1
            go_simp
            refine hK.out _ _ trivial (fun _ => ?_)
            clear hK K
            have hS := True.intro
            try simp only [Act.put, List.setIfInBounds_toArray, List.set_cons_zero, List.set_cons_succ]
            refine wpAnyH_ready (rs := [1]) (by kernel_rfl) (by simp) ?_
            refine AllReadyH.cons rfl (fun K hK => ?_) AllReadyH.nil
            go_simp
            refine hK.out _ _ trivial (fun _ => ?_)
            clear hK K
            have hS := True.intro
            try simp only [Act.put, List.setIfInBounds_toArray, List.set_cons_zero, List.set_cons_succ]
            refine wpAnyH_ready (rs := [8]) (by kernel_rfl) (by simp) ?_
            refine AllReadyH.cons rfl (fun K hK => ?_) AllReadyH.nil
            rw [if_pos (by rfl)]
            refine Go.Proofs.Ytnodofbpogcheaa.Wl.wp_app (s := .tmp 77) (x := .tmp 83) (t := 23) (d := some 84) rfl rfl rfl rfl rfl hrun ?_
            try simp only [Act.put, List.setIfInBounds_toArray, List.set_cons_zero, List.set_cons_succ]
            refine hK.out _ _ trivial (fun _ => ?_)
            clear hK K
            have hS := True.intro
            try simp only [Act.put, List.setIfInBounds_toArray, List.set_cons_zero, List.set_cons_succ]
            refine Go.Proofs.Ytnodofbpogcheaa.Wl.takeAt (i := 9) (d := some 85) (v := ?va21_9) rfl (by rfl) (by kernel_rfl) (by kernel_rfl) (by kernel_rfl) (fun _ _ _ h => h) (Or.inl ⟨by rfl, ?ya21_9⟩) hS ?_
            case ya21_9 => intro wx hSw; (go_simp) <;> with_reducible rfl
            simp only [Act.put, List.setIfInBounds_toArray, List.set_cons_zero, List.set_cons_succ]
            refine wpAnyH_ready (rs := [10]) (by kernel_rfl) (by simp) ?_
            refine AllReadyH.cons rfl (fun K hK => ?_) AllReadyH.nil
            go_simp
            refine hK.out _ _ trivial (fun _ => ?_)
            clear hK K
            have hS := True.intro
            try simp only [Act.put, List.setIfInBounds_toArray, List.set_cons_zero, List.set_cons_succ]
            refine wpAnyH_done (by kernel_rfl) ?_ _
            refine NoPanic.normal ?_
            have ea9 := ea2
            obtain ⟨t2, g2⟩ := HST.out.step (stabL _) (a := wr.heap.size) bx2.out ea9 (fun (b : Nat) hb => by obtain rfl : b = wr.heap.size := hb; exact ⟨fa1, World.block_lt_of_cell? _ _ ea9⟩) hown4 hgr4 hat4
            have FF := hid g2
            clear g2
            go_wp2_with fail
            go_round
            case rel => exact ⟨k + 1, by omega, by go_num, sv, _, FF.out⟩
            case measure => simp [intOf]; omega
    · obtain rfl : k = 12 := by omega
      obtain ⟨hn, hrow⟩ := grow_row (p := GAt) (f := gF0 t) hst.g (by omega) (fun _ _ => rfl) (fun g i hi h => ⟨h 0 (by decide), h 1 (by decide)⟩)
      have CK := hid (show Chks (.agg #[.slice none 0 0, .slice vs.a vs.n vs.c, .slice none 0 0, .slice none 0 0]) 0 wr from res_glo HK.out hrow hn (fun i hi => hst.g.el i hi) (by decide))
      have c1 := hst.c
      have c0 := (hst.o 0 (by decide)).trans BX.out.1.c0
      have c2 := (hst.o 2 (by decide)).trans BX.out.1.c2
      have c3 := (hst.o 3 (by decide)).trans BX.out.1.c3
      have LO := hid hst.low
      clear hst hn hrow hlt
      go_wp2_with (go_at_call 15; refine (CK.out _ (same _)).mono ?_; rintro e w5 ⟨rfl, hb5⟩; have B5 := hid hb5; clear hb5)
      go_ret
      exact ⟨rfl, View.more (View.more st1.out LO.out) B5.out⟩

set_option maxRecDepth 10000 in
set_option maxHeartbeats 8000000 in
theorem lim1_true (which : Int) (w : World) (hck : ChkC) (hfi : ∀ w, Calls Try.prog 13 #[] w fun e w' => e = .returned (.bool true) ∧ Below w.heap.size w w') (a0 : Nat) (h1 : bits .and .i64 which 255 = (a0 : Int)) (h2 : (a0 : Int).tmod 6 = 1) :
    Calls Try.prog 4 #[.int .i64 which, .bool true] w fun e w' => e = .returned (.bool true) ∧ Below w.heap.size w w' := by
  have HF := hid hfi
  have HK := hid hck
  clear hfi hck
  go_enter Try.func4, Try.ntmps4
  go_wp2_with (go_at_call 13; refine (HF.out _).mono ?_; rintro e w1 ⟨rfl, hb⟩; have st1 := hid hb; clear hb)
  clear h1 h2
  obtain ⟨V, hV⟩ : ∃ V, w1.heap.size = V := ⟨_, rfl⟩
  rw [hV]
  obtain ⟨W0, hW0⟩ : ∃ W0, ((w1.alloc (.cells #[.slice none 0 0, .slice none 0 0, .slice none 0 0, .slice none 0 0] 27)).alloc (.cells #[.int .i64 29, .int .i64 0, .int .i64 0, .int .i64 0, .int .i64 0, .slice none 0 0, .slice none 0 0] 39)).alloc (.cells #[.slice (some ⟨V + 1, 0, none⟩) 1 1] 37) = W0 := ⟨_, rfl⟩
  rw [hW0]
  have BX := hid (show MCell4 W0 V ∧ (∀ i, W0.frozen? ⟨V, i, none⟩ = false) ∧ Below w1.heap.size w1 W0 ∧ V + 2 < W0.heap.size ∧ w1.heap.size ≤ V from by
    subst hV hW0
    exact ⟨⟨cell_on (new (new (same _) _) _) (by simp), cell_on (new (new (same _) _) _) (by simp), cell_on (new (new (same _) _) _) (by simp), cell_on (new (new (same _) _) _) (by simp)⟩, fun i => by rw [World.frozen?_alloc_old _ _ _ (by show w1.heap.size ≠ _; simp; omega), World.frozen?_alloc_old _ _ _ (by show w1.heap.size ≠ _; simp)]; exact World.frozen?_alloc_new _ _ _ i, new (new (new (same _) _) _) _, by simp, Nat.le_refl _⟩)
  have BD := hid (show BodyAt W0 V from by subst hV hW0; exact bodyAt_new w1)
  clear hW0
  have ST := hid (show GSt w1 W0 V 48 2 0 1 (csL) (elL) fpL W0 (slv ⟨none, 0, 0⟩) (fun _ => 0) from GSt.start _ BX.out.1.c1 BX.out.2.1 BX.out.2.2.1 (by have := BX.out.2.2.2.1; omega) BX.out.2.2.2.2)
  go_loopw [9] (fun i wr => ∃ k : Nat, k ≤ 13 ∧ i = .int .i64 k ∧ ∃ (vs : Sl) (t : Nat → Nat), GSt w1 W0 V 48 2 k 1 csL elL fpL wr (slv vs) t) (fun i _ => 13 - (intOf i).toNat)
  case atStart => exact ⟨0, Nat.zero_le _, rfl, _, _, ST.out⟩
  case round =>
    obtain ⟨k, hk, rfl, vs, t, hst⟩ := hrel
    by_cases hlt : k < 13
    · obtain ⟨d, hd⟩ : ∃ d, Lx.shown (k : Int) = d := ⟨_, rfl⟩
      have hds : d.size ≤ 21 := by rw [← hd]; exact Lx.shown_small ⟨by omega, by omega⟩
      have hds2 : ¬ 9223372036854775807 < 1 + d.size := by omega
      have hn : (⟨#[103]⟩ : ByteArray) ++ d = nm 103 k := by rw [← hd]; exact nm_show 103 k
      have HC := hid (show ∀ w1, Calls Try.prog 14 #[.int .i64 k] w1 fun e w' => e = .returned (.string d) ∧ Below w1.heap.size w1 w' from fun w1 => by rw [← hd]; exact Lx.rshow_any k w1 ⟨by omega, by omega⟩)
      have hcV : wr.cell? ⟨V, 1, none⟩ = some (.slice vs.a vs.n vs.c) := hst.c
      have hcD : wr.drew.cell? ⟨V, 1, none⟩ = some (.slice vs.a vs.n vs.c) := hst.c
      have NV := hid (show some V ≠ (slv vs).ownBlock from fun e => by have := (hst.g.own.lt V e.symm).1; have := hst.lt; omega)
      have HST := hid hst
      have bx0 := hid (show Below wr.drew.heap.size wr.drew wr.drew from same _)
      clear hst hd
      go_wp2_with fail
      refine wp_region_noPanic ?_
      refine wp_region_held_drew (S := fun _ => True) (by kernel_rfl) trivial (fun hS => ?_)
      refine Go.Proofs.Ytnodofbpogcheaa.Wl.takeAt (i := 0) (d := some 76) (v := ?va1_0) rfl (by rfl) (by kernel_rfl) (by kernel_rfl) (by kernel_rfl) (fun _ _ _ h => h) (Or.inl ⟨by rfl, ?ya1_0⟩) hS ?_
      case ya1_0 => intro wx hSw; (go_simp) <;> with_reducible rfl
      simp only [Act.put, List.setIfInBounds_toArray, List.set_cons_zero, List.set_cons_succ]
      refine Go.Proofs.Ytnodofbpogcheaa.Wl.takeAt (i := 2) (d := some 78) (v := ?va2_2) rfl (by rfl) (by kernel_rfl) (by kernel_rfl) (by kernel_rfl) (fun _ _ _ h => h) (Or.inl ⟨by rfl, ?ya2_2⟩) hS ?_
      case ya2_2 => intro wx hSw; (go_simp) <;> with_reducible rfl
      simp only [Act.put, List.setIfInBounds_toArray, List.set_cons_zero, List.set_cons_succ]
      refine wpAnyH_ready (rs := [1, 3, 5]) (by kernel_rfl) (by simp) ?_
      refine AllReadyH.cons rfl (fun K hK => ?_) (AllReadyH.cons rfl (fun K hK => ?_) (AllReadyH.cons rfl (fun K hK => ?_) AllReadyH.nil))
      · go_simp
        refine hK.out _ _ trivial (fun _ => ?_)
        clear hK K
        have hS := True.intro
        try simp only [Act.put, List.setIfInBounds_toArray, List.set_cons_zero, List.set_cons_succ]
        refine wpAnyH_ready (rs := [3, 5]) (by kernel_rfl) (by simp) ?_
        refine AllReadyH.cons rfl (fun K hK => ?_) (AllReadyH.cons rfl (fun K hK => ?_) AllReadyH.nil)
        · go_simp
          refine (HC.out _).mono ?_
          rintro e wx1 ⟨rfl, hbN⟩
          have hx1 := cell_on hbN hcD
          have bx1 := hid (View.more bx0.out hbN)
          clear hbN
          go_wp2_with fail
          refine hK.out _ _ trivial (fun _ => ?_)
          clear hK K
          have hS := True.intro
          try simp only [Act.put, List.setIfInBounds_toArray, List.set_cons_zero, List.set_cons_succ]
          refine Go.Proofs.Ytnodofbpogcheaa.Wl.takeAt (i := 4) (d := some 80) (v := ?va3_4) rfl (by rfl) (by kernel_rfl) (by kernel_rfl) (by kernel_rfl) (fun _ _ _ h => h) (Or.inl ⟨by rfl, ?ya3_4⟩) hS ?_
          case ya3_4 => intro wx hSw; (go_simp) <;> with_reducible rfl
          simp only [Act.put, List.setIfInBounds_toArray, List.set_cons_zero, List.set_cons_succ]
          refine wpAnyH_ready (rs := [5]) (by kernel_rfl) (by simp) ?_
          refine AllReadyH.cons rfl (fun K hK => ?_) AllReadyH.nil
          go_simp
          refine hK.out _ _ trivial (fun _ => ?_)
          clear hK K
          have hS := True.intro
          try simp only [Act.put, List.setIfInBounds_toArray, List.set_cons_zero, List.set_cons_succ]
          obtain ⟨wx2, hwwx2⟩ : ∃ wq, World.alloc wx1 (.cells #[.int .i64 0] 2) = wq := ⟨_, rfl⟩
          rw [hwwx2]
          have zwx2 : wx2.heap.size = wx1.heap.size + 1 := by rw [← hwwx2]; simp
          have bx2 := hid (show Below wr.drew.heap.size wr.drew wx2 by rw [← hwwx2]; exact new (bx1.out) _)
          have lwx2 := hid (show Below wx1.heap.size wx1 wx2 by rw [← hwwx2]; exact new (same _) _)
          have hx2 : wx2.cell? ⟨V, 1, none⟩ = some (.slice vs.a vs.n vs.c) := cell_on lwx2.out hx1
          have ea2 : wx2.cell? ⟨wx1.heap.size, 0, none⟩ = some (.int .i64 0) := by rw [← hwwx2]; simp
          have fa2 : wr.heap.size ≤ wx1.heap.size := bx1.out.size
          clear hwwx2 zwx2
          refine Go.Proofs.Ytnodofbpogcheaa.Wl.takeAt (i := 6) (d := some 82) (v := ?va4_6) rfl (by rfl) (by kernel_rfl) (by kernel_rfl) (by kernel_rfl) (fun _ _ _ h => h) (Or.inl ⟨by rfl, ?ya4_6⟩) hS ?_
          case ya4_6 => intro wx hSw; (go_simp) <;> with_reducible rfl
          simp only [Act.put, List.setIfInBounds_toArray, List.set_cons_zero, List.set_cons_succ]
          refine wpAnyH_ready (rs := [7]) (by kernel_rfl) (by simp) ?_
          refine AllReadyH.cons rfl (fun K hK => ?_) AllReadyH.nil
          have ob := bx2.out
          have os := ob.size
          have zs := HST.out.size
          have os2 : W0.heap.size ≤ wx2.heap.size := Nat.le_trans zs os
          clear os zs ob
          obtain ⟨v5, w4, hrun, hown4, hgr4, hat4⟩ := app_gen (w2 := wx2) underGl infoGl rfl (by decide) (by decide) (owns_on (more (Below.drew (same wr)) bx2.out) HST.out.g.own) (by omega) os2 #[.string (nm 103 k), .slice (some ⟨wx1.heap.size, 0, none⟩) 1 1] rfl (by intro x hx; simp at hx; rcases hx with rfl | rfl <;> rfl) 23
          obtain ⟨sv, rfl⟩ := owns_slv hown4
          have hc3 : (World.alloc wx2 (.cells #[.string (nm 103 k), .slice (some ⟨wx1.heap.size, 0, none⟩) 1 1] 48)).cell? ⟨V, 1, none⟩ = some (.slice vs.a vs.n vs.c) := cell_on (new (same _) _) hx2
          have hc4 : w4.cell? ⟨V, 1, none⟩ = some (.slice vs.a vs.n vs.c) := by rw [World.cell?_of_block (w := World.alloc wx2 _) (hgr4.block V (World.block_lt_of_cell? _ _ hc3) NV.out)]; exact hc3
          have fz4 : w4.frozen? ⟨V, 1, none⟩ = false := by rw [World.frozen?_of_block (w := World.alloc wx2 _) (hgr4.block V (World.block_lt_of_cell? _ _ hc3) NV.out), World.frozen?_alloc_old _ _ _ (by have := World.block_lt_of_cell? _ _ hx2; show V ≠ _; simp at this ⊢; omega), bx2.out.frozen (by have := World.block_lt_of_cell? _ _ hcD; simpa using this)]; exact HST.out.fz 1
          go_simp
          refine hK.out _ _ trivial (fun _ => ?_)
          clear hK K
          have hS := True.intro
          try simp only [Act.put, List.setIfInBounds_toArray, List.set_cons_zero, List.set_cons_succ]
          refine wpAnyH_ready (rs := [8]) (by kernel_rfl) (by simp) ?_
          refine AllReadyH.cons rfl (fun K hK => ?_) AllReadyH.nil
          rw [if_pos (by rfl)]
          refine Go.Proofs.Ytnodofbpogcheaa.Wl.wp_app (s := .tmp 77) (x := .tmp 83) (t := 23) (d := some 84) rfl rfl rfl rfl rfl hrun ?_
          try simp only [Act.put, List.setIfInBounds_toArray, List.set_cons_zero, List.set_cons_succ]
          refine hK.out _ _ trivial (fun _ => ?_)
          clear hK K
          have hS := True.intro
          try simp only [Act.put, List.setIfInBounds_toArray, List.set_cons_zero, List.set_cons_succ]
          refine Go.Proofs.Ytnodofbpogcheaa.Wl.takeAt (i := 9) (d := some 85) (v := ?va5_9) rfl (by rfl) (by kernel_rfl) (by kernel_rfl) (by kernel_rfl) (fun _ _ _ h => h) (Or.inl ⟨by rfl, ?ya5_9⟩) hS ?_
          case ya5_9 => intro wx hSw; (go_simp) <;> with_reducible rfl
          simp only [Act.put, List.setIfInBounds_toArray, List.set_cons_zero, List.set_cons_succ]
          refine wpAnyH_ready (rs := [10]) (by kernel_rfl) (by simp) ?_
          refine AllReadyH.cons rfl (fun K hK => ?_) AllReadyH.nil
          go_simp
          refine hK.out _ _ trivial (fun _ => ?_)
          clear hK K
          have hS := True.intro
          try simp only [Act.put, List.setIfInBounds_toArray, List.set_cons_zero, List.set_cons_succ]
          refine wpAnyH_done (by kernel_rfl) ?_ _
          refine NoPanic.normal ?_
          have ea9 := ea2
          obtain ⟨t2, g2⟩ := HST.out.step (stabL _) (a := wx1.heap.size) bx2.out ea9 (fun (b : Nat) hb => by obtain rfl : b = wx1.heap.size := hb; exact ⟨fa2, World.block_lt_of_cell? _ _ ea9⟩) hown4 hgr4 hat4
          have FF := hid g2
          clear g2
          go_wp2_with fail
          go_round
          case rel => exact ⟨k + 1, by omega, by go_num, sv, _, FF.out⟩
          case measure => simp [intOf]; omega
        · go_simp
          refine hK.out _ _ trivial (fun _ => ?_)
          clear hK K
          have hS := True.intro
          try simp only [Act.put, List.setIfInBounds_toArray, List.set_cons_zero, List.set_cons_succ]
          obtain ⟨wx1, hwwx1⟩ : ∃ wq, (World.alloc wr (.cells #[.int .i64 0] 2)).drew = wq := ⟨_, rfl⟩
          rw [hwwx1]
          have zwx1 : wx1.heap.size = wr.drew.heap.size + 1 := by rw [← hwwx1]; simp
          have bx1 := hid (show Below wr.drew.heap.size wr.drew wx1 by rw [← hwwx1]; exact new (bx0.out) _)
          have lwx1 := hid (show Below wr.drew.heap.size wr.drew wx1 by rw [← hwwx1]; exact new (same _) _)
          have hx1 : wx1.cell? ⟨V, 1, none⟩ = some (.slice vs.a vs.n vs.c) := cell_on lwx1.out hcD
          have ea1 : wx1.cell? ⟨wr.heap.size, 0, none⟩ = some (.int .i64 0) := by rw [← hwwx1]; simp
          have fa1 : wr.heap.size ≤ wr.heap.size := bx0.out.size
          clear hwwx1 zwx1
          refine wpAnyH_ready (rs := [3]) (by kernel_rfl) (by simp) ?_
          refine AllReadyH.cons rfl (fun K hK => ?_) AllReadyH.nil
          go_simp
          refine (HC.out _).mono ?_
          rintro e wx2 ⟨rfl, hbN⟩
          have hx2 := cell_on hbN hx1
          have bx2 := hid (View.more bx1.out hbN)
          have ea2 := cell_on hbN ea1
          clear hbN
          go_wp2_with fail
          refine hK.out _ _ trivial (fun _ => ?_)
          clear hK K
          have hS := True.intro
          try simp only [Act.put, List.setIfInBounds_toArray, List.set_cons_zero, List.set_cons_succ]
          refine Go.Proofs.Ytnodofbpogcheaa.Wl.takeAt (i := 4) (d := some 80) (v := ?va6_4) rfl (by rfl) (by kernel_rfl) (by kernel_rfl) (by kernel_rfl) (fun _ _ _ h => h) (Or.inl ⟨by rfl, ?ya6_4⟩) hS ?_
          case ya6_4 => intro wx hSw; (go_simp) <;> with_reducible rfl
          simp only [Act.put, List.setIfInBounds_toArray, List.set_cons_zero, List.set_cons_succ]
          refine Go.Proofs.Ytnodofbpogcheaa.Wl.takeAt (i := 6) (d := some 82) (v := ?va7_6) rfl (by rfl) (by kernel_rfl) (by kernel_rfl) (by kernel_rfl) (fun _ _ _ h => h) (Or.inl ⟨by rfl, ?ya7_6⟩) hS ?_
          case ya7_6 => intro wx hSw; (go_simp) <;> with_reducible rfl
          simp only [Act.put, List.setIfInBounds_toArray, List.set_cons_zero, List.set_cons_succ]
          refine wpAnyH_ready (rs := [7]) (by kernel_rfl) (by simp) ?_
          refine AllReadyH.cons rfl (fun K hK => ?_) AllReadyH.nil
          have ob := bx2.out
          have os := ob.size
          have zs := HST.out.size
          have os2 : W0.heap.size ≤ wx2.heap.size := Nat.le_trans zs os
          clear os zs ob
          obtain ⟨v5, w4, hrun, hown4, hgr4, hat4⟩ := app_gen (w2 := wx2) underGl infoGl rfl (by decide) (by decide) (owns_on (more (Below.drew (same wr)) bx2.out) HST.out.g.own) (by omega) os2 #[.string (nm 103 k), .slice (some ⟨wr.heap.size, 0, none⟩) 1 1] rfl (by intro x hx; simp at hx; rcases hx with rfl | rfl <;> rfl) 23
          obtain ⟨sv, rfl⟩ := owns_slv hown4
          have hc3 : (World.alloc wx2 (.cells #[.string (nm 103 k), .slice (some ⟨wr.heap.size, 0, none⟩) 1 1] 48)).cell? ⟨V, 1, none⟩ = some (.slice vs.a vs.n vs.c) := cell_on (new (same _) _) hx2
          have hc4 : w4.cell? ⟨V, 1, none⟩ = some (.slice vs.a vs.n vs.c) := by rw [World.cell?_of_block (w := World.alloc wx2 _) (hgr4.block V (World.block_lt_of_cell? _ _ hc3) NV.out)]; exact hc3
          have fz4 : w4.frozen? ⟨V, 1, none⟩ = false := by rw [World.frozen?_of_block (w := World.alloc wx2 _) (hgr4.block V (World.block_lt_of_cell? _ _ hc3) NV.out), World.frozen?_alloc_old _ _ _ (by have := World.block_lt_of_cell? _ _ hx2; show V ≠ _; simp at this ⊢; omega), bx2.out.frozen (by have := World.block_lt_of_cell? _ _ hcD; simpa using this)]; exact HST.out.fz 1
          go_simp
          refine hK.out _ _ trivial (fun _ => ?_)
          clear hK K
          have hS := True.intro
          try simp only [Act.put, List.setIfInBounds_toArray, List.set_cons_zero, List.set_cons_succ]
          refine wpAnyH_ready (rs := [8]) (by kernel_rfl) (by simp) ?_
          refine AllReadyH.cons rfl (fun K hK => ?_) AllReadyH.nil
          rw [if_pos (by rfl)]
          refine Go.Proofs.Ytnodofbpogcheaa.Wl.wp_app (s := .tmp 77) (x := .tmp 83) (t := 23) (d := some 84) rfl rfl rfl rfl rfl hrun ?_
          try simp only [Act.put, List.setIfInBounds_toArray, List.set_cons_zero, List.set_cons_succ]
          refine hK.out _ _ trivial (fun _ => ?_)
          clear hK K
          have hS := True.intro
          try simp only [Act.put, List.setIfInBounds_toArray, List.set_cons_zero, List.set_cons_succ]
          refine Go.Proofs.Ytnodofbpogcheaa.Wl.takeAt (i := 9) (d := some 85) (v := ?va8_9) rfl (by rfl) (by kernel_rfl) (by kernel_rfl) (by kernel_rfl) (fun _ _ _ h => h) (Or.inl ⟨by rfl, ?ya8_9⟩) hS ?_
          case ya8_9 => intro wx hSw; (go_simp) <;> with_reducible rfl
          simp only [Act.put, List.setIfInBounds_toArray, List.set_cons_zero, List.set_cons_succ]
          refine wpAnyH_ready (rs := [10]) (by kernel_rfl) (by simp) ?_
          refine AllReadyH.cons rfl (fun K hK => ?_) AllReadyH.nil
          go_simp
          refine hK.out _ _ trivial (fun _ => ?_)
          clear hK K
          have hS := True.intro
          try simp only [Act.put, List.setIfInBounds_toArray, List.set_cons_zero, List.set_cons_succ]
          refine wpAnyH_done (by kernel_rfl) ?_ _
          refine NoPanic.normal ?_
          have ea9 := ea2
          obtain ⟨t2, g2⟩ := HST.out.step (stabL _) (a := wr.heap.size) bx2.out ea9 (fun (b : Nat) hb => by obtain rfl : b = wr.heap.size := hb; exact ⟨fa1, World.block_lt_of_cell? _ _ ea9⟩) hown4 hgr4 hat4
          have FF := hid g2
          clear g2
          go_wp2_with fail
          go_round
          case rel => exact ⟨k + 1, by omega, by go_num, sv, _, FF.out⟩
          case measure => simp [intOf]; omega
      · go_simp
        refine (HC.out _).mono ?_
        rintro e wx1 ⟨rfl, hbN⟩
        have hx1 := cell_on hbN hcD
        have bx1 := hid (View.more bx0.out hbN)
        clear hbN
        go_wp2_with fail
        refine hK.out _ _ trivial (fun _ => ?_)
        clear hK K
        have hS := True.intro
        try simp only [Act.put, List.setIfInBounds_toArray, List.set_cons_zero, List.set_cons_succ]
        refine Go.Proofs.Ytnodofbpogcheaa.Wl.takeAt (i := 4) (d := some 80) (v := ?va9_4) rfl (by rfl) (by kernel_rfl) (by kernel_rfl) (by kernel_rfl) (fun _ _ _ h => h) (Or.inl ⟨by rfl, ?ya9_4⟩) hS ?_
        case ya9_4 => intro wx hSw; (go_simp) <;> with_reducible rfl
        simp only [Act.put, List.setIfInBounds_toArray, List.set_cons_zero, List.set_cons_succ]
        refine wpAnyH_ready (rs := [1, 5]) (by kernel_rfl) (by simp) ?_
        refine AllReadyH.cons rfl (fun K hK => ?_) (AllReadyH.cons rfl (fun K hK => ?_) AllReadyH.nil)
        · go_simp
          refine hK.out _ _ trivial (fun _ => ?_)
          clear hK K
          have hS := True.intro
          try simp only [Act.put, List.setIfInBounds_toArray, List.set_cons_zero, List.set_cons_succ]
          refine wpAnyH_ready (rs := [5]) (by kernel_rfl) (by simp) ?_
          refine AllReadyH.cons rfl (fun K hK => ?_) AllReadyH.nil
          go_simp
          refine hK.out _ _ trivial (fun _ => ?_)
          clear hK K
          have hS := True.intro
          try simp only [Act.put, List.setIfInBounds_toArray, List.set_cons_zero, List.set_cons_succ]
          obtain ⟨wx2, hwwx2⟩ : ∃ wq, World.alloc wx1 (.cells #[.int .i64 0] 2) = wq := ⟨_, rfl⟩
          rw [hwwx2]
          have zwx2 : wx2.heap.size = wx1.heap.size + 1 := by rw [← hwwx2]; simp
          have bx2 := hid (show Below wr.drew.heap.size wr.drew wx2 by rw [← hwwx2]; exact new (bx1.out) _)
          have lwx2 := hid (show Below wx1.heap.size wx1 wx2 by rw [← hwwx2]; exact new (same _) _)
          have hx2 : wx2.cell? ⟨V, 1, none⟩ = some (.slice vs.a vs.n vs.c) := cell_on lwx2.out hx1
          have ea2 : wx2.cell? ⟨wx1.heap.size, 0, none⟩ = some (.int .i64 0) := by rw [← hwwx2]; simp
          have fa2 : wr.heap.size ≤ wx1.heap.size := bx1.out.size
          clear hwwx2 zwx2
          refine Go.Proofs.Ytnodofbpogcheaa.Wl.takeAt (i := 6) (d := some 82) (v := ?va10_6) rfl (by rfl) (by kernel_rfl) (by kernel_rfl) (by kernel_rfl) (fun _ _ _ h => h) (Or.inl ⟨by rfl, ?ya10_6⟩) hS ?_
          case ya10_6 => intro wx hSw; (go_simp) <;> with_reducible rfl
          simp only [Act.put, List.setIfInBounds_toArray, List.set_cons_zero, List.set_cons_succ]
          refine wpAnyH_ready (rs := [7]) (by kernel_rfl) (by simp) ?_
          refine AllReadyH.cons rfl (fun K hK => ?_) AllReadyH.nil
          have ob := bx2.out
          have os := ob.size
          have zs := HST.out.size
          have os2 : W0.heap.size ≤ wx2.heap.size := Nat.le_trans zs os
          clear os zs ob
          obtain ⟨v5, w4, hrun, hown4, hgr4, hat4⟩ := app_gen (w2 := wx2) underGl infoGl rfl (by decide) (by decide) (owns_on (more (Below.drew (same wr)) bx2.out) HST.out.g.own) (by omega) os2 #[.string (nm 103 k), .slice (some ⟨wx1.heap.size, 0, none⟩) 1 1] rfl (by intro x hx; simp at hx; rcases hx with rfl | rfl <;> rfl) 23
          obtain ⟨sv, rfl⟩ := owns_slv hown4
          have hc3 : (World.alloc wx2 (.cells #[.string (nm 103 k), .slice (some ⟨wx1.heap.size, 0, none⟩) 1 1] 48)).cell? ⟨V, 1, none⟩ = some (.slice vs.a vs.n vs.c) := cell_on (new (same _) _) hx2
          have hc4 : w4.cell? ⟨V, 1, none⟩ = some (.slice vs.a vs.n vs.c) := by rw [World.cell?_of_block (w := World.alloc wx2 _) (hgr4.block V (World.block_lt_of_cell? _ _ hc3) NV.out)]; exact hc3
          have fz4 : w4.frozen? ⟨V, 1, none⟩ = false := by rw [World.frozen?_of_block (w := World.alloc wx2 _) (hgr4.block V (World.block_lt_of_cell? _ _ hc3) NV.out), World.frozen?_alloc_old _ _ _ (by have := World.block_lt_of_cell? _ _ hx2; show V ≠ _; simp at this ⊢; omega), bx2.out.frozen (by have := World.block_lt_of_cell? _ _ hcD; simpa using this)]; exact HST.out.fz 1
          go_simp
          refine hK.out _ _ trivial (fun _ => ?_)
          clear hK K
          have hS := True.intro
          try simp only [Act.put, List.setIfInBounds_toArray, List.set_cons_zero, List.set_cons_succ]
          refine wpAnyH_ready (rs := [8]) (by kernel_rfl) (by simp) ?_
          refine AllReadyH.cons rfl (fun K hK => ?_) AllReadyH.nil
          rw [if_pos (by rfl)]
          refine Go.Proofs.Ytnodofbpogcheaa.Wl.wp_app (s := .tmp 77) (x := .tmp 83) (t := 23) (d := some 84) rfl rfl rfl rfl rfl hrun ?_
          try simp only [Act.put, List.setIfInBounds_toArray, List.set_cons_zero, List.set_cons_succ]
          refine hK.out _ _ trivial (fun _ => ?_)
          clear hK K
          have hS := True.intro
          try simp only [Act.put, List.setIfInBounds_toArray, List.set_cons_zero, List.set_cons_succ]
          refine Go.Proofs.Ytnodofbpogcheaa.Wl.takeAt (i := 9) (d := some 85) (v := ?va11_9) rfl (by rfl) (by kernel_rfl) (by kernel_rfl) (by kernel_rfl) (fun _ _ _ h => h) (Or.inl ⟨by rfl, ?ya11_9⟩) hS ?_
          case ya11_9 => intro wx hSw; (go_simp) <;> with_reducible rfl
          simp only [Act.put, List.setIfInBounds_toArray, List.set_cons_zero, List.set_cons_succ]
          refine wpAnyH_ready (rs := [10]) (by kernel_rfl) (by simp) ?_
          refine AllReadyH.cons rfl (fun K hK => ?_) AllReadyH.nil
          go_simp
          refine hK.out _ _ trivial (fun _ => ?_)
          clear hK K
          have hS := True.intro
          try simp only [Act.put, List.setIfInBounds_toArray, List.set_cons_zero, List.set_cons_succ]
          refine wpAnyH_done (by kernel_rfl) ?_ _
          refine NoPanic.normal ?_
          have ea9 := ea2
          obtain ⟨t2, g2⟩ := HST.out.step (stabL _) (a := wx1.heap.size) bx2.out ea9 (fun (b : Nat) hb => by obtain rfl : b = wx1.heap.size := hb; exact ⟨fa2, World.block_lt_of_cell? _ _ ea9⟩) hown4 hgr4 hat4
          have FF := hid g2
          clear g2
          go_wp2_with fail
          go_round
          case rel => exact ⟨k + 1, by omega, by go_num, sv, _, FF.out⟩
          case measure => simp [intOf]; omega
        · go_simp
          refine hK.out _ _ trivial (fun _ => ?_)
          clear hK K
          have hS := True.intro
          try simp only [Act.put, List.setIfInBounds_toArray, List.set_cons_zero, List.set_cons_succ]
          obtain ⟨wx2, hwwx2⟩ : ∃ wq, World.alloc wx1 (.cells #[.int .i64 0] 2) = wq := ⟨_, rfl⟩
          rw [hwwx2]
          have zwx2 : wx2.heap.size = wx1.heap.size + 1 := by rw [← hwwx2]; simp
          have bx2 := hid (show Below wr.drew.heap.size wr.drew wx2 by rw [← hwwx2]; exact new (bx1.out) _)
          have lwx2 := hid (show Below wx1.heap.size wx1 wx2 by rw [← hwwx2]; exact new (same _) _)
          have hx2 : wx2.cell? ⟨V, 1, none⟩ = some (.slice vs.a vs.n vs.c) := cell_on lwx2.out hx1
          have ea2 : wx2.cell? ⟨wx1.heap.size, 0, none⟩ = some (.int .i64 0) := by rw [← hwwx2]; simp
          have fa2 : wr.heap.size ≤ wx1.heap.size := bx1.out.size
          clear hwwx2 zwx2
          refine Go.Proofs.Ytnodofbpogcheaa.Wl.takeAt (i := 6) (d := some 82) (v := ?va12_6) rfl (by rfl) (by kernel_rfl) (by kernel_rfl) (by kernel_rfl) (fun _ _ _ h => h) (Or.inl ⟨by rfl, ?ya12_6⟩) hS ?_
          case ya12_6 => intro wx hSw; (go_simp) <;> with_reducible rfl
          simp only [Act.put, List.setIfInBounds_toArray, List.set_cons_zero, List.set_cons_succ]
          refine wpAnyH_ready (rs := [1, 7]) (by kernel_rfl) (by simp) ?_
          refine AllReadyH.cons rfl (fun K hK => ?_) (AllReadyH.cons rfl (fun K hK => ?_) AllReadyH.nil)
          · go_simp
            refine hK.out _ _ trivial (fun _ => ?_)
            clear hK K
            have hS := True.intro
            try simp only [Act.put, List.setIfInBounds_toArray, List.set_cons_zero, List.set_cons_succ]
            refine wpAnyH_ready (rs := [7]) (by kernel_rfl) (by simp) ?_
            refine AllReadyH.cons rfl (fun K hK => ?_) AllReadyH.nil
            have ob := bx2.out
            have os := ob.size
            have zs := HST.out.size
            have os2 : W0.heap.size ≤ wx2.heap.size := Nat.le_trans zs os
            clear os zs ob
            obtain ⟨v5, w4, hrun, hown4, hgr4, hat4⟩ := app_gen (w2 := wx2) underGl infoGl rfl (by decide) (by decide) (owns_on (more (Below.drew (same wr)) bx2.out) HST.out.g.own) (by omega) os2 #[.string (nm 103 k), .slice (some ⟨wx1.heap.size, 0, none⟩) 1 1] rfl (by intro x hx; simp at hx; rcases hx with rfl | rfl <;> rfl) 23
            obtain ⟨sv, rfl⟩ := owns_slv hown4
            have hc3 : (World.alloc wx2 (.cells #[.string (nm 103 k), .slice (some ⟨wx1.heap.size, 0, none⟩) 1 1] 48)).cell? ⟨V, 1, none⟩ = some (.slice vs.a vs.n vs.c) := cell_on (new (same _) _) hx2
            have hc4 : w4.cell? ⟨V, 1, none⟩ = some (.slice vs.a vs.n vs.c) := by rw [World.cell?_of_block (w := World.alloc wx2 _) (hgr4.block V (World.block_lt_of_cell? _ _ hc3) NV.out)]; exact hc3
            have fz4 : w4.frozen? ⟨V, 1, none⟩ = false := by rw [World.frozen?_of_block (w := World.alloc wx2 _) (hgr4.block V (World.block_lt_of_cell? _ _ hc3) NV.out), World.frozen?_alloc_old _ _ _ (by have := World.block_lt_of_cell? _ _ hx2; show V ≠ _; simp at this ⊢; omega), bx2.out.frozen (by have := World.block_lt_of_cell? _ _ hcD; simpa using this)]; exact HST.out.fz 1
            go_simp
            refine hK.out _ _ trivial (fun _ => ?_)
            clear hK K
            have hS := True.intro
            try simp only [Act.put, List.setIfInBounds_toArray, List.set_cons_zero, List.set_cons_succ]
            refine wpAnyH_ready (rs := [8]) (by kernel_rfl) (by simp) ?_
            refine AllReadyH.cons rfl (fun K hK => ?_) AllReadyH.nil
            rw [if_pos (by rfl)]
            refine Go.Proofs.Ytnodofbpogcheaa.Wl.wp_app (s := .tmp 77) (x := .tmp 83) (t := 23) (d := some 84) rfl rfl rfl rfl rfl hrun ?_
            try simp only [Act.put, List.setIfInBounds_toArray, List.set_cons_zero, List.set_cons_succ]
            refine hK.out _ _ trivial (fun _ => ?_)
            clear hK K
            have hS := True.intro
            try simp only [Act.put, List.setIfInBounds_toArray, List.set_cons_zero, List.set_cons_succ]
            refine Go.Proofs.Ytnodofbpogcheaa.Wl.takeAt (i := 9) (d := some 85) (v := ?va13_9) rfl (by rfl) (by kernel_rfl) (by kernel_rfl) (by kernel_rfl) (fun _ _ _ h => h) (Or.inl ⟨by rfl, ?ya13_9⟩) hS ?_
            case ya13_9 => intro wx hSw; (go_simp) <;> with_reducible rfl
            simp only [Act.put, List.setIfInBounds_toArray, List.set_cons_zero, List.set_cons_succ]
            refine wpAnyH_ready (rs := [10]) (by kernel_rfl) (by simp) ?_
            refine AllReadyH.cons rfl (fun K hK => ?_) AllReadyH.nil
            go_simp
            refine hK.out _ _ trivial (fun _ => ?_)
            clear hK K
            have hS := True.intro
            try simp only [Act.put, List.setIfInBounds_toArray, List.set_cons_zero, List.set_cons_succ]
            refine wpAnyH_done (by kernel_rfl) ?_ _
            refine NoPanic.normal ?_
            have ea9 := ea2
            obtain ⟨t2, g2⟩ := HST.out.step (stabL _) (a := wx1.heap.size) bx2.out ea9 (fun (b : Nat) hb => by obtain rfl : b = wx1.heap.size := hb; exact ⟨fa2, World.block_lt_of_cell? _ _ ea9⟩) hown4 hgr4 hat4
            have FF := hid g2
            clear g2
            go_wp2_with fail
            go_round
            case rel => exact ⟨k + 1, by omega, by go_num, sv, _, FF.out⟩
            case measure => simp [intOf]; omega
          · have ob := bx2.out
            have os := ob.size
            have zs := HST.out.size
            have os2 : W0.heap.size ≤ wx2.heap.size := Nat.le_trans zs os
            clear os zs ob
            obtain ⟨v5, w4, hrun, hown4, hgr4, hat4⟩ := app_gen (w2 := wx2) underGl infoGl rfl (by decide) (by decide) (owns_on (more (Below.drew (same wr)) bx2.out) HST.out.g.own) (by omega) os2 #[.string (nm 103 k), .slice (some ⟨wx1.heap.size, 0, none⟩) 1 1] rfl (by intro x hx; simp at hx; rcases hx with rfl | rfl <;> rfl) 23
            obtain ⟨sv, rfl⟩ := owns_slv hown4
            have hc3 : (World.alloc wx2 (.cells #[.string (nm 103 k), .slice (some ⟨wx1.heap.size, 0, none⟩) 1 1] 48)).cell? ⟨V, 1, none⟩ = some (.slice vs.a vs.n vs.c) := cell_on (new (same _) _) hx2
            have hc4 : w4.cell? ⟨V, 1, none⟩ = some (.slice vs.a vs.n vs.c) := by rw [World.cell?_of_block (w := World.alloc wx2 _) (hgr4.block V (World.block_lt_of_cell? _ _ hc3) NV.out)]; exact hc3
            have fz4 : w4.frozen? ⟨V, 1, none⟩ = false := by rw [World.frozen?_of_block (w := World.alloc wx2 _) (hgr4.block V (World.block_lt_of_cell? _ _ hc3) NV.out), World.frozen?_alloc_old _ _ _ (by have := World.block_lt_of_cell? _ _ hx2; show V ≠ _; simp at this ⊢; omega), bx2.out.frozen (by have := World.block_lt_of_cell? _ _ hcD; simpa using this)]; exact HST.out.fz 1
            go_simp
            refine hK.out _ _ trivial (fun _ => ?_)
            clear hK K
            have hS := True.intro
            try simp only [Act.put, List.setIfInBounds_toArray, List.set_cons_zero, List.set_cons_succ]
            refine wpAnyH_ready (rs := [1]) (by kernel_rfl) (by simp) ?_
            refine AllReadyH.cons rfl (fun K hK => ?_) AllReadyH.nil
            go_simp
            refine hK.out _ _ trivial (fun _ => ?_)
            clear hK K
            have hS := True.intro
            try simp only [Act.put, List.setIfInBounds_toArray, List.set_cons_zero, List.set_cons_succ]
            refine wpAnyH_ready (rs := [8]) (by kernel_rfl) (by simp) ?_
            refine AllReadyH.cons rfl (fun K hK => ?_) AllReadyH.nil
            rw [if_pos (by rfl)]
            refine Go.Proofs.Ytnodofbpogcheaa.Wl.wp_app (s := .tmp 77) (x := .tmp 83) (t := 23) (d := some 84) rfl rfl rfl rfl rfl hrun ?_
            try simp only [Act.put, List.setIfInBounds_toArray, List.set_cons_zero, List.set_cons_succ]
            refine hK.out _ _ trivial (fun _ => ?_)
            clear hK K
            have hS := True.intro
            try simp only [Act.put, List.setIfInBounds_toArray, List.set_cons_zero, List.set_cons_succ]
            refine Go.Proofs.Ytnodofbpogcheaa.Wl.takeAt (i := 9) (d := some 85) (v := ?va14_9) rfl (by rfl) (by kernel_rfl) (by kernel_rfl) (by kernel_rfl) (fun _ _ _ h => h) (Or.inl ⟨by rfl, ?ya14_9⟩) hS ?_
            case ya14_9 => intro wx hSw; (go_simp) <;> with_reducible rfl
            simp only [Act.put, List.setIfInBounds_toArray, List.set_cons_zero, List.set_cons_succ]
            refine wpAnyH_ready (rs := [10]) (by kernel_rfl) (by simp) ?_
            refine AllReadyH.cons rfl (fun K hK => ?_) AllReadyH.nil
            go_simp
            refine hK.out _ _ trivial (fun _ => ?_)
            clear hK K
            have hS := True.intro
            try simp only [Act.put, List.setIfInBounds_toArray, List.set_cons_zero, List.set_cons_succ]
            refine wpAnyH_done (by kernel_rfl) ?_ _
            refine NoPanic.normal ?_
            have ea9 := ea2
            obtain ⟨t2, g2⟩ := HST.out.step (stabL _) (a := wx1.heap.size) bx2.out ea9 (fun (b : Nat) hb => by obtain rfl : b = wx1.heap.size := hb; exact ⟨fa2, World.block_lt_of_cell? _ _ ea9⟩) hown4 hgr4 hat4
            have FF := hid g2
            clear g2
            go_wp2_with fail
            go_round
            case rel => exact ⟨k + 1, by omega, by go_num, sv, _, FF.out⟩
            case measure => simp [intOf]; omega
      · go_simp
        refine hK.out _ _ trivial (fun _ => ?_)
        clear hK K
        have hS := True.intro
        try simp only [Act.put, List.setIfInBounds_toArray, List.set_cons_zero, List.set_cons_succ]
        obtain ⟨wx1, hwwx1⟩ : ∃ wq, (World.alloc wr (.cells #[.int .i64 0] 2)).drew = wq := ⟨_, rfl⟩
        rw [hwwx1]
        have zwx1 : wx1.heap.size = wr.drew.heap.size + 1 := by rw [← hwwx1]; simp
        have bx1 := hid (show Below wr.drew.heap.size wr.drew wx1 by rw [← hwwx1]; exact new (bx0.out) _)
        have lwx1 := hid (show Below wr.drew.heap.size wr.drew wx1 by rw [← hwwx1]; exact new (same _) _)
        have hx1 : wx1.cell? ⟨V, 1, none⟩ = some (.slice vs.a vs.n vs.c) := cell_on lwx1.out hcD
        have ea1 : wx1.cell? ⟨wr.heap.size, 0, none⟩ = some (.int .i64 0) := by rw [← hwwx1]; simp
        have fa1 : wr.heap.size ≤ wr.heap.size := bx0.out.size
        clear hwwx1 zwx1
        refine wpAnyH_ready (rs := [1, 3]) (by kernel_rfl) (by simp) ?_
        refine AllReadyH.cons rfl (fun K hK => ?_) (AllReadyH.cons rfl (fun K hK => ?_) AllReadyH.nil)
        · go_simp
          refine hK.out _ _ trivial (fun _ => ?_)
          clear hK K
          have hS := True.intro
          try simp only [Act.put, List.setIfInBounds_toArray, List.set_cons_zero, List.set_cons_succ]
          refine wpAnyH_ready (rs := [3]) (by kernel_rfl) (by simp) ?_
          refine AllReadyH.cons rfl (fun K hK => ?_) AllReadyH.nil
          go_simp
          refine (HC.out _).mono ?_
          rintro e wx2 ⟨rfl, hbN⟩
          have hx2 := cell_on hbN hx1
          have bx2 := hid (View.more bx1.out hbN)
          have ea2 := cell_on hbN ea1
          clear hbN
          go_wp2_with fail
          refine hK.out _ _ trivial (fun _ => ?_)
          clear hK K
          have hS := True.intro
          try simp only [Act.put, List.setIfInBounds_toArray, List.set_cons_zero, List.set_cons_succ]
          refine Go.Proofs.Ytnodofbpogcheaa.Wl.takeAt (i := 4) (d := some 80) (v := ?va15_4) rfl (by rfl) (by kernel_rfl) (by kernel_rfl) (by kernel_rfl) (fun _ _ _ h => h) (Or.inl ⟨by rfl, ?ya15_4⟩) hS ?_
          case ya15_4 => intro wx hSw; (go_simp) <;> with_reducible rfl
          simp only [Act.put, List.setIfInBounds_toArray, List.set_cons_zero, List.set_cons_succ]
          refine Go.Proofs.Ytnodofbpogcheaa.Wl.takeAt (i := 6) (d := some 82) (v := ?va16_6) rfl (by rfl) (by kernel_rfl) (by kernel_rfl) (by kernel_rfl) (fun _ _ _ h => h) (Or.inl ⟨by rfl, ?ya16_6⟩) hS ?_
          case ya16_6 => intro wx hSw; (go_simp) <;> with_reducible rfl
          simp only [Act.put, List.setIfInBounds_toArray, List.set_cons_zero, List.set_cons_succ]
          refine wpAnyH_ready (rs := [7]) (by kernel_rfl) (by simp) ?_
          refine AllReadyH.cons rfl (fun K hK => ?_) AllReadyH.nil
          have ob := bx2.out
          have os := ob.size
          have zs := HST.out.size
          have os2 : W0.heap.size ≤ wx2.heap.size := Nat.le_trans zs os
          clear os zs ob
          obtain ⟨v5, w4, hrun, hown4, hgr4, hat4⟩ := app_gen (w2 := wx2) underGl infoGl rfl (by decide) (by decide) (owns_on (more (Below.drew (same wr)) bx2.out) HST.out.g.own) (by omega) os2 #[.string (nm 103 k), .slice (some ⟨wr.heap.size, 0, none⟩) 1 1] rfl (by intro x hx; simp at hx; rcases hx with rfl | rfl <;> rfl) 23
          obtain ⟨sv, rfl⟩ := owns_slv hown4
          have hc3 : (World.alloc wx2 (.cells #[.string (nm 103 k), .slice (some ⟨wr.heap.size, 0, none⟩) 1 1] 48)).cell? ⟨V, 1, none⟩ = some (.slice vs.a vs.n vs.c) := cell_on (new (same _) _) hx2
          have hc4 : w4.cell? ⟨V, 1, none⟩ = some (.slice vs.a vs.n vs.c) := by rw [World.cell?_of_block (w := World.alloc wx2 _) (hgr4.block V (World.block_lt_of_cell? _ _ hc3) NV.out)]; exact hc3
          have fz4 : w4.frozen? ⟨V, 1, none⟩ = false := by rw [World.frozen?_of_block (w := World.alloc wx2 _) (hgr4.block V (World.block_lt_of_cell? _ _ hc3) NV.out), World.frozen?_alloc_old _ _ _ (by have := World.block_lt_of_cell? _ _ hx2; show V ≠ _; simp at this ⊢; omega), bx2.out.frozen (by have := World.block_lt_of_cell? _ _ hcD; simpa using this)]; exact HST.out.fz 1
          go_simp
          refine hK.out _ _ trivial (fun _ => ?_)
          clear hK K
          have hS := True.intro
          try simp only [Act.put, List.setIfInBounds_toArray, List.set_cons_zero, List.set_cons_succ]
          refine wpAnyH_ready (rs := [8]) (by kernel_rfl) (by simp) ?_
          refine AllReadyH.cons rfl (fun K hK => ?_) AllReadyH.nil
          rw [if_pos (by rfl)]
          refine Go.Proofs.Ytnodofbpogcheaa.Wl.wp_app (s := .tmp 77) (x := .tmp 83) (t := 23) (d := some 84) rfl rfl rfl rfl rfl hrun ?_
          try simp only [Act.put, List.setIfInBounds_toArray, List.set_cons_zero, List.set_cons_succ]
          refine hK.out _ _ trivial (fun _ => ?_)
          clear hK K
          have hS := True.intro
          try simp only [Act.put, List.setIfInBounds_toArray, List.set_cons_zero, List.set_cons_succ]
          refine Go.Proofs.Ytnodofbpogcheaa.Wl.takeAt (i := 9) (d := some 85) (v := ?va17_9) rfl (by rfl) (by kernel_rfl) (by kernel_rfl) (by kernel_rfl) (fun _ _ _ h => h) (Or.inl ⟨by rfl, ?ya17_9⟩) hS ?_
          case ya17_9 => intro wx hSw; (go_simp) <;> with_reducible rfl
          simp only [Act.put, List.setIfInBounds_toArray, List.set_cons_zero, List.set_cons_succ]
          refine wpAnyH_ready (rs := [10]) (by kernel_rfl) (by simp) ?_
          refine AllReadyH.cons rfl (fun K hK => ?_) AllReadyH.nil
          go_simp
          refine hK.out _ _ trivial (fun _ => ?_)
          clear hK K
          have hS := True.intro
          try simp only [Act.put, List.setIfInBounds_toArray, List.set_cons_zero, List.set_cons_succ]
          refine wpAnyH_done (by kernel_rfl) ?_ _
          refine NoPanic.normal ?_
          have ea9 := ea2
          obtain ⟨t2, g2⟩ := HST.out.step (stabL _) (a := wr.heap.size) bx2.out ea9 (fun (b : Nat) hb => by obtain rfl : b = wr.heap.size := hb; exact ⟨fa1, World.block_lt_of_cell? _ _ ea9⟩) hown4 hgr4 hat4
          have FF := hid g2
          clear g2
          go_wp2_with fail
          go_round
          case rel => exact ⟨k + 1, by omega, by go_num, sv, _, FF.out⟩
          case measure => simp [intOf]; omega
        · go_simp
          refine (HC.out _).mono ?_
          rintro e wx2 ⟨rfl, hbN⟩
          have hx2 := cell_on hbN hx1
          have bx2 := hid (View.more bx1.out hbN)
          have ea2 := cell_on hbN ea1
          clear hbN
          go_wp2_with fail
          refine hK.out _ _ trivial (fun _ => ?_)
          clear hK K
          have hS := True.intro
          try simp only [Act.put, List.setIfInBounds_toArray, List.set_cons_zero, List.set_cons_succ]
          refine Go.Proofs.Ytnodofbpogcheaa.Wl.takeAt (i := 4) (d := some 80) (v := ?va18_4) rfl (by rfl) (by kernel_rfl) (by kernel_rfl) (by kernel_rfl) (fun _ _ _ h => h) (Or.inl ⟨by rfl, ?ya18_4⟩) hS ?_
          case ya18_4 => intro wx hSw; (go_simp) <;> with_reducible rfl
          simp only [Act.put, List.setIfInBounds_toArray, List.set_cons_zero, List.set_cons_succ]
          refine Go.Proofs.Ytnodofbpogcheaa.Wl.takeAt (i := 6) (d := some 82) (v := ?va19_6) rfl (by rfl) (by kernel_rfl) (by kernel_rfl) (by kernel_rfl) (fun _ _ _ h => h) (Or.inl ⟨by rfl, ?ya19_6⟩) hS ?_
          case ya19_6 => intro wx hSw; (go_simp) <;> with_reducible rfl
          simp only [Act.put, List.setIfInBounds_toArray, List.set_cons_zero, List.set_cons_succ]
          refine wpAnyH_ready (rs := [1, 7]) (by kernel_rfl) (by simp) ?_
          refine AllReadyH.cons rfl (fun K hK => ?_) (AllReadyH.cons rfl (fun K hK => ?_) AllReadyH.nil)
          · go_simp
            refine hK.out _ _ trivial (fun _ => ?_)
            clear hK K
            have hS := True.intro
            try simp only [Act.put, List.setIfInBounds_toArray, List.set_cons_zero, List.set_cons_succ]
            refine wpAnyH_ready (rs := [7]) (by kernel_rfl) (by simp) ?_
            refine AllReadyH.cons rfl (fun K hK => ?_) AllReadyH.nil
            have ob := bx2.out
            have os := ob.size
            have zs := HST.out.size
            have os2 : W0.heap.size ≤ wx2.heap.size := Nat.le_trans zs os
            clear os zs ob
            obtain ⟨v5, w4, hrun, hown4, hgr4, hat4⟩ := app_gen (w2 := wx2) underGl infoGl rfl (by decide) (by decide) (owns_on (more (Below.drew (same wr)) bx2.out) HST.out.g.own) (by omega) os2 #[.string (nm 103 k), .slice (some ⟨wr.heap.size, 0, none⟩) 1 1] rfl (by intro x hx; simp at hx; rcases hx with rfl | rfl <;> rfl) 23
            obtain ⟨sv, rfl⟩ := owns_slv hown4
            have hc3 : (World.alloc wx2 (.cells #[.string (nm 103 k), .slice (some ⟨wr.heap.size, 0, none⟩) 1 1] 48)).cell? ⟨V, 1, none⟩ = some (.slice vs.a vs.n vs.c) := cell_on (new (same _) _) hx2
            have hc4 : w4.cell? ⟨V, 1, none⟩ = some (.slice vs.a vs.n vs.c) := by rw [World.cell?_of_block (w := World.alloc wx2 _) (hgr4.block V (World.block_lt_of_cell? _ _ hc3) NV.out)]; exact hc3
            have fz4 : w4.frozen? ⟨V, 1, none⟩ = false := by rw [World.frozen?_of_block (w := World.alloc wx2 _) (hgr4.block V (World.block_lt_of_cell? _ _ hc3) NV.out), World.frozen?_alloc_old _ _ _ (by have := World.block_lt_of_cell? _ _ hx2; show V ≠ _; simp at this ⊢; omega), bx2.out.frozen (by have := World.block_lt_of_cell? _ _ hcD; simpa using this)]; exact HST.out.fz 1
            go_simp
            refine hK.out _ _ trivial (fun _ => ?_)
            clear hK K
            have hS := True.intro
            try simp only [Act.put, List.setIfInBounds_toArray, List.set_cons_zero, List.set_cons_succ]
            refine wpAnyH_ready (rs := [8]) (by kernel_rfl) (by simp) ?_
            refine AllReadyH.cons rfl (fun K hK => ?_) AllReadyH.nil
            rw [if_pos (by rfl)]
            refine Go.Proofs.Ytnodofbpogcheaa.Wl.wp_app (s := .tmp 77) (x := .tmp 83) (t := 23) (d := some 84) rfl rfl rfl rfl rfl hrun ?_
            try simp only [Act.put, List.setIfInBounds_toArray, List.set_cons_zero, List.set_cons_succ]
            refine hK.out _ _ trivial (fun _ => ?_)
            clear hK K
            have hS := True.intro
            try simp only [Act.put, List.setIfInBounds_toArray, List.set_cons_zero, List.set_cons_succ]
            refine Go.Proofs.Ytnodofbpogcheaa.Wl.takeAt (i := 9) (d := some 85) (v := ?va20_9) rfl (by rfl) (by kernel_rfl) (by kernel_rfl) (by kernel_rfl) (fun _ _ _ h => h) (Or.inl ⟨by rfl, ?ya20_9⟩) hS ?_
            case ya20_9 => intro wx hSw; (go_simp) <;> with_reducible rfl
            simp only [Act.put, List.setIfInBounds_toArray, List.set_cons_zero, List.set_cons_succ]
            refine wpAnyH_ready (rs := [10]) (by kernel_rfl) (by simp) ?_
            refine AllReadyH.cons rfl (fun K hK => ?_) AllReadyH.nil
            go_simp
            refine hK.out _ _ trivial (fun _ => ?_)
            clear hK K
            have hS := True.intro
            try simp only [Act.put, List.setIfInBounds_toArray, List.set_cons_zero, List.set_cons_succ]
            refine wpAnyH_done (by kernel_rfl) ?_ _
            refine NoPanic.normal ?_
            have ea9 := ea2
            obtain ⟨t2, g2⟩ := HST.out.step (stabL _) (a := wr.heap.size) bx2.out ea9 (fun (b : Nat) hb => by obtain rfl : b = wr.heap.size := hb; exact ⟨fa1, World.block_lt_of_cell? _ _ ea9⟩) hown4 hgr4 hat4
            have FF := hid g2
            clear g2
            go_wp2_with fail
            go_round
            case rel => exact ⟨k + 1, by omega, by go_num, sv, _, FF.out⟩
            case measure => simp [intOf]; omega
          · have ob := bx2.out
            have os := ob.size
            have zs := HST.out.size
            have os2 : W0.heap.size ≤ wx2.heap.size := Nat.le_trans zs os
            clear os zs ob
            obtain ⟨v5, w4, hrun, hown4, hgr4, hat4⟩ := app_gen (w2 := wx2) underGl infoGl rfl (by decide) (by decide) (owns_on (more (Below.drew (same wr)) bx2.out) HST.out.g.own) (by omega) os2 #[.string (nm 103 k), .slice (some ⟨wr.heap.size, 0, none⟩) 1 1] rfl (by intro x hx; simp at hx; rcases hx with rfl | rfl <;> rfl) 23
            obtain ⟨sv, rfl⟩ := owns_slv hown4
            have hc3 : (World.alloc wx2 (.cells #[.string (nm 103 k), .slice (some ⟨wr.heap.size, 0, none⟩) 1 1] 48)).cell? ⟨V, 1, none⟩ = some (.slice vs.a vs.n vs.c) := cell_on (new (same _) _) hx2
            have hc4 : w4.cell? ⟨V, 1, none⟩ = some (.slice vs.a vs.n vs.c) := by rw [World.cell?_of_block (w := World.alloc wx2 _) (hgr4.block V (World.block_lt_of_cell? _ _ hc3) NV.out)]; exact hc3
            have fz4 : w4.frozen? ⟨V, 1, none⟩ = false := by rw [World.frozen?_of_block (w := World.alloc wx2 _) (hgr4.block V (World.block_lt_of_cell? _ _ hc3) NV.out), World.frozen?_alloc_old _ _ _ (by have := World.block_lt_of_cell? _ _ hx2; show V ≠ _; simp at this ⊢; omega), bx2.out.frozen (by have := World.block_lt_of_cell? _ _ hcD; simpa using this)]; exact HST.out.fz 1
            go_simp
            refine hK.out _ _ trivial (fun _ => ?_)
            clear hK K
            have hS := True.intro
            try simp only [Act.put, List.setIfInBounds_toArray, List.set_cons_zero, List.set_cons_succ]
            refine wpAnyH_ready (rs := [1]) (by kernel_rfl) (by simp) ?_
            refine AllReadyH.cons rfl (fun K hK => ?_) AllReadyH.nil
            go_simp
            refine hK.out _ _ trivial (fun _ => ?_)
            clear hK K
            have hS := True.intro
            try simp only [Act.put, List.setIfInBounds_toArray, List.set_cons_zero, List.set_cons_succ]
            refine wpAnyH_ready (rs := [8]) (by kernel_rfl) (by simp) ?_
            refine AllReadyH.cons rfl (fun K hK => ?_) AllReadyH.nil
            rw [if_pos (by rfl)]
            refine Go.Proofs.Ytnodofbpogcheaa.Wl.wp_app (s := .tmp 77) (x := .tmp 83) (t := 23) (d := some 84) rfl rfl rfl rfl rfl hrun ?_
            try simp only [Act.put, List.setIfInBounds_toArray, List.set_cons_zero, List.set_cons_succ]
            refine hK.out _ _ trivial (fun _ => ?_)
            clear hK K
            have hS := True.intro
            try simp only [Act.put, List.setIfInBounds_toArray, List.set_cons_zero, List.set_cons_succ]
            refine Go.Proofs.Ytnodofbpogcheaa.Wl.takeAt (i := 9) (d := some 85) (v := ?va21_9) rfl (by rfl) (by kernel_rfl) (by kernel_rfl) (by kernel_rfl) (fun _ _ _ h => h) (Or.inl ⟨by rfl, ?ya21_9⟩) hS ?_
            case ya21_9 => intro wx hSw; (go_simp) <;> with_reducible rfl
            simp only [Act.put, List.setIfInBounds_toArray, List.set_cons_zero, List.set_cons_succ]
            refine wpAnyH_ready (rs := [10]) (by kernel_rfl) (by simp) ?_
            refine AllReadyH.cons rfl (fun K hK => ?_) AllReadyH.nil
            go_simp
            refine hK.out _ _ trivial (fun _ => ?_)
            clear hK K
            have hS := True.intro
            try simp only [Act.put, List.setIfInBounds_toArray, List.set_cons_zero, List.set_cons_succ]
            refine wpAnyH_done (by kernel_rfl) ?_ _
            refine NoPanic.normal ?_
            have ea9 := ea2
            obtain ⟨t2, g2⟩ := HST.out.step (stabL _) (a := wr.heap.size) bx2.out ea9 (fun (b : Nat) hb => by obtain rfl : b = wr.heap.size := hb; exact ⟨fa1, World.block_lt_of_cell? _ _ ea9⟩) hown4 hgr4 hat4
            have FF := hid g2
            clear g2
            go_wp2_with fail
            go_round
            case rel => exact ⟨k + 1, by omega, by go_num, sv, _, FF.out⟩
            case measure => simp [intOf]; omega
    · obtain rfl : k = 13 := by omega
      obtain ⟨hn, hrow⟩ := grow_row (p := GAt) (f := gF0 t) hst.g (by omega) (fun _ _ => rfl) (fun g i hi h => ⟨h 0 (by decide), h 1 (by decide)⟩)
      have CK := hid (show Chks (.agg #[.slice none 0 0, .slice vs.a vs.n vs.c, .slice none 0 0, .slice none 0 0]) 2 wr from res_glo HK.out hrow hn (fun i hi => hst.g.el i hi) (by decide))
      have c1 := hst.c
      have c0 := (hst.o 0 (by decide)).trans BX.out.1.c0
      have c2 := (hst.o 2 (by decide)).trans BX.out.1.c2
      have c3 := (hst.o 3 (by decide)).trans BX.out.1.c3
      have LO := hid hst.low
      clear hst hn hrow hlt
      go_wp2_with (go_at_call 15; refine (CK.out _ (same _)).mono ?_; rintro e w5 ⟨rfl, hb5⟩; have B5 := hid hb5; clear hb5)
      go_ret
      exact ⟨rfl, View.more (View.more st1.out LO.out) B5.out⟩

end Go.Proofs.Ytnodofbpogcheaa.Wf
