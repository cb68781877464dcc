/-
  Wlb0, Wlc, Wld: laid together.
-/
import Derived.Test.YtnodofbpogcheaaJ10
import Derived.Laws.MakeOwn
/-
  WfLimits, walked: as many functions as may be, one more.
-/
namespace Go.Proofs.Ytnodofbpogcheaa.Wf
open Go.RowKit View Rd Num Copy Go.Proofs.Ytnodofbpogcheaa.Mod Go.Proofs.Ytnodofbpogcheaa.Wl Go.Proofs.Ytnodofbpogcheaa.Chk Go.Proofs.Ytnodofbpogcheaa.Flo

set_option linter.unusedVariables false

set_option maxRecDepth 10000 in
set_option maxHeartbeats 8000000 in
theorem lim0_false (which : Int) (w : World) (hck : ChkC) (hfi : ∀ w, Calls Try.prog 13 #[] w fun e w' => e = .returned (.bool true) ∧ Below w.heap.size w w') (a0 : Nat) (h1 : bits .and .i64 which 255 = (a0 : Int)) (h2 : (a0 : Int).tmod 6 = 0) :
    Calls Try.prog 4 #[.int .i64 which, .bool false] w fun e w' => e = .returned (.bool true) ∧ Below w.heap.size w w' := by
  have HF := hid hfi
  have HK := hid hck
  clear hfi hck
  go_enter Try.func4, Try.ntmps4
  go_wp2_with (go_at_call 13; refine (HF.out _).mono ?_; rintro e w1 ⟨rfl, hb⟩; have st1 := hid hb; clear hb)
  clear h1 h2
  obtain ⟨V, hV⟩ : ∃ V, w1.heap.size = V := ⟨_, rfl⟩
  rw [hV]
  obtain ⟨W0, hW0⟩ : ∃ W0, ((w1.alloc (.cells #[.slice none 0 0, .slice none 0 0, .slice none 0 0, .slice none 0 0] 27)).alloc (.cells #[.int .i64 29, .int .i64 0, .int .i64 0, .int .i64 0, .int .i64 0, .slice none 0 0, .slice none 0 0] 39)).alloc (.cells #[.slice (some ⟨V + 1, 0, none⟩) 1 1] 37) = W0 := ⟨_, rfl⟩
  rw [hW0]
  have ST := hid (show GSt w1 W0 V 33 5 0 3 (csR (V + 1 + 1)) noEl noFp W0 (slv ⟨none, 0, 0⟩) (fun _ => ()) from by
    subst hV hW0
    exact GSt.start () (cell_on (new (new (same _) _) _) (by simp)) (fun i => by rw [World.frozen?_alloc_old _ _ _ (by show w1.heap.size ≠ _; simp; omega), World.frozen?_alloc_old _ _ _ (by show w1.heap.size ≠ _; simp)]; exact World.frozen?_alloc_new _ _ _ i) (new (new (new (same _) _) _) _) (by simp; omega) (Nat.le_refl _))
  have BD := hid (show BodyAt W0 V ∧ W0.cell? ⟨V, 0, none⟩ = some (.slice none 0 0) ∧ W0.cell? ⟨V, 1, none⟩ = some (.slice none 0 0) ∧ W0.cell? ⟨V, 2, none⟩ = some (.slice none 0 0) from by subst hV hW0; exact ⟨bodyAt_new w1, cell_on (new (new (same _) _) _) (by simp), cell_on (new (new (same _) _) _) (by simp), cell_on (new (new (same _) _) _) (by simp)⟩)
  clear hW0
  go_loopw [8] (fun i wr => ∃ k : Nat, k ≤ 24 ∧ i = .int .i64 k ∧ ∃ (vs : Sl) (t : Nat → Unit), GSt w1 W0 V 33 5 k 3 (csR (V + 1 + 1)) noEl noFp wr (slv vs) t) (fun i _ => 24 - (intOf i).toNat)
  case atStart => exact ⟨0, Nat.zero_le _, rfl, _, _, ST.out⟩
  case round =>
    obtain ⟨k, hk, rfl, vs, t, hst⟩ := hrel
    by_cases hlt : k < 24
    · have hcV : wr.cell? ⟨V, 3, none⟩ = some (.slice vs.a vs.n vs.c) := hst.c
      have hcD : wr.drew.cell? ⟨V, 3, none⟩ = some (.slice vs.a vs.n vs.c) := hst.c
      have NV := hid (show some V ≠ (slv vs).ownBlock from fun e => by have := (hst.g.own.lt V e.symm).1; have := hst.lt; omega)
      have HST := hid hst
      obtain ⟨d, hd⟩ : ∃ d, Lx.shown (k : Int) = d := ⟨_, rfl⟩
      have hds : d.size ≤ 21 := by rw [← hd]; exact Lx.shown_small ⟨by omega, by omega⟩
      have hds2 : ¬ 9223372036854775807 < 1 + d.size := by omega
      have hn : (⟨#[102]⟩ : ByteArray) ++ d = nm 102 k := by rw [← hd]; exact nm_show 102 k
      have HC := hid (show ∀ w1, Calls Try.prog 14 #[.int .i64 k] w1 fun e w' => e = .returned (.string d) ∧ Below w1.heap.size w1 w' from fun w1 => by rw [← hd]; exact Lx.rshow_any k w1 ⟨by omega, by omega⟩)
      clear hst hd
      go_wp2_with fail
      refine wp_region_noPanic ?_
      refine wp_region_held_drew (S := fun _ => True) (by kernel_rfl) trivial (fun hS => ?_)
      refine Go.Proofs.Ytnodofbpogcheaa.Wl.takeAt (i := 0) (d := some 58) (v := ?va1_0) rfl (by rfl) (by kernel_rfl) (by kernel_rfl) (by kernel_rfl) (fun _ _ _ h => h) (Or.inl ⟨by rfl, ?ya1_0⟩) hS ?_
      case ya1_0 => intro wx hSw; (go_simp) <;> with_reducible rfl
      simp only [Act.put, List.setIfInBounds_toArray, List.set_cons_zero, List.set_cons_succ]
      refine Go.Proofs.Ytnodofbpogcheaa.Wl.takeAt (i := 2) (d := some 60) (v := ?va1_2) rfl (by rfl) (by kernel_rfl) (by kernel_rfl) (by kernel_rfl) (fun _ _ _ h => h) (Or.inl ⟨by rfl, ?ya1_2⟩) hS ?_
      case ya1_2 => intro wx hSw; (go_simp) <;> with_reducible rfl
      simp only [Act.put, List.setIfInBounds_toArray, List.set_cons_zero, List.set_cons_succ]
      refine Go.Proofs.Ytnodofbpogcheaa.Wl.takeAt (i := 5) (d := some 63) (v := ?va1_5) rfl (by rfl) (by kernel_rfl) (by kernel_rfl) (by kernel_rfl) (fun _ _ _ h => h) (Or.inl ⟨by rfl, ?ya1_5⟩) hS ?_
      case ya1_5 => intro wx hSw; (go_simp) <;> with_reducible rfl
      simp only [Act.put, List.setIfInBounds_toArray, List.set_cons_zero, List.set_cons_succ]
      refine wpAnyH_ready (rs := [1, 3]) (by kernel_rfl) (by simp) ?_
      refine AllReadyH.cons rfl (fun K hK => ?_) (AllReadyH.cons rfl (fun K hK => ?_) AllReadyH.nil)
      · go_simp
        refine hK.out _ _ trivial (fun _ => ?_)
        clear hK K
        have hS := True.intro
        try simp only [Act.put, List.setIfInBounds_toArray, List.set_cons_zero, List.set_cons_succ]
        refine wpAnyH_ready (rs := [3]) (by kernel_rfl) (by simp) ?_
        refine AllReadyH.cons rfl (fun K hK => ?_) AllReadyH.nil
        go_simp
        refine (HC.out _).mono ?_
        rintro e w2 ⟨rfl, hb2⟩
        have hc2 := cell_on hb2 hcD
        have B2 := hid hb2
        clear hb2
        go_wp2_with fail
        obtain ⟨v5, w4, hrun, hown4, hgr4, hat4⟩ := app_gen (w2 := w2) underF infoF rfl (by decide) (by decide) (owns_on (more (Below.drew (same wr)) B2.out) HST.out.g.own) (by omega) (by have := B2.out.size; have := HST.out.size; show _ ≤ w2.heap.size; simp at *; omega) #[.string (nm 102 k), .bool false, .slice none 0 0, .int .i64 0, .slice (some ⟨V + 1 + 1, 0, none⟩) 1 1] rfl (by intro x hx; simp at hx; rcases hx with rfl | rfl | rfl | rfl | rfl <;> rfl) 25
        obtain ⟨sv, rfl⟩ := owns_slv hown4
        have hc3 : (w2.alloc (.cells #[.string (nm 102 k), .bool false, .slice none 0 0, .int .i64 0, .slice (some ⟨V + 1 + 1, 0, none⟩) 1 1] 33)).cell? ⟨V, 3, none⟩ = some (.slice vs.a vs.n vs.c) := cell_on (new (same w2) _) hc2
        have hc4 : w4.cell? ⟨V, 3, none⟩ = some (.slice vs.a vs.n vs.c) := by rw [World.cell?_of_block (w := w2.alloc _) (hgr4.block V (by have := World.block_lt_of_cell? _ _ hc3; exact this) NV.out)]; exact hc3
        have fz4 : w4.frozen? ⟨V, 3, none⟩ = false := by rw [World.frozen?_of_block (w := w2.alloc _) (hgr4.block V (World.block_lt_of_cell? _ _ hc3) NV.out), World.frozen?_alloc_old _ _ _ (by have := World.block_lt_of_cell? _ _ hc2; show V ≠ _; simp at this ⊢; omega), B2.out.frozen (by have := World.block_lt_of_cell? _ _ hcD; simpa using this)]; exact HST.out.fz 3
        refine hK.out _ _ trivial (fun _ => ?_)
        clear hK K
        have hS := True.intro
        try simp only [Act.put, List.setIfInBounds_toArray, List.set_cons_zero, List.set_cons_succ]
        refine Go.Proofs.Ytnodofbpogcheaa.Wl.takeAt (i := 4) (d := some 62) (v := ?va3_4) rfl (by rfl) (by kernel_rfl) (by kernel_rfl) (by kernel_rfl) (fun _ _ _ h => h) (Or.inl ⟨by rfl, ?ya3_4⟩) hS ?_
        case ya3_4 => intro wx hSw; (go_simp) <;> with_reducible rfl
        simp only [Act.put, List.setIfInBounds_toArray, List.set_cons_zero, List.set_cons_succ]
        refine Go.Proofs.Ytnodofbpogcheaa.Wl.takeAt (i := 6) (d := some 64) (v := ?va3_6) rfl (by rfl) (by kernel_rfl) (by kernel_rfl) (by kernel_rfl) (fun _ _ _ h => h) (Or.inl ⟨by rfl, ?ya3_6⟩) hS ?_
        case ya3_6 => intro wx hSw; (go_simp) <;> with_reducible rfl
        simp only [Act.put, List.setIfInBounds_toArray, List.set_cons_zero, List.set_cons_succ]
        refine wpAnyH_ready (rs := [7]) (by kernel_rfl) (by simp) ?_
        refine AllReadyH.cons rfl (fun K hK => ?_) AllReadyH.nil
        go_simp
        refine hK.out _ _ trivial (fun _ => ?_)
        clear hK K
        have hS := True.intro
        try simp only [Act.put, List.setIfInBounds_toArray, List.set_cons_zero, List.set_cons_succ]
        refine wpAnyH_ready (rs := [8]) (by kernel_rfl) (by simp) ?_
        refine AllReadyH.cons rfl (fun K hK => ?_) AllReadyH.nil
        rw [if_pos (by rfl)]
        refine Go.Proofs.Ytnodofbpogcheaa.Wl.wp_app (s := .tmp 59) (x := .tmp 65) (t := 25) (d := some 66) rfl rfl rfl rfl rfl hrun ?_
        try simp only [Act.put, List.setIfInBounds_toArray, List.set_cons_zero, List.set_cons_succ]
        refine hK.out _ _ trivial (fun _ => ?_)
        clear hK K
        have hS := True.intro
        try simp only [Act.put, List.setIfInBounds_toArray, List.set_cons_zero, List.set_cons_succ]
        refine Go.Proofs.Ytnodofbpogcheaa.Wl.takeAt (i := 9) (d := some 67) (v := ?va5_9) rfl (by rfl) (by kernel_rfl) (by kernel_rfl) (by kernel_rfl) (fun _ _ _ h => h) (Or.inl ⟨by rfl, ?ya5_9⟩) hS ?_
        case ya5_9 => intro wx hSw; (go_simp) <;> with_reducible rfl
        simp only [Act.put, List.setIfInBounds_toArray, List.set_cons_zero, List.set_cons_succ]
        refine wpAnyH_ready (rs := [10]) (by kernel_rfl) (by simp) ?_
        refine AllReadyH.cons rfl (fun K hK => ?_) AllReadyH.nil
        go_simp
        refine hK.out _ _ trivial (fun _ => ?_)
        clear hK K
        have hS := True.intro
        try simp only [Act.put, List.setIfInBounds_toArray, List.set_cons_zero, List.set_cons_succ]
        refine wpAnyH_done (by kernel_rfl) ?_ _
        refine NoPanic.normal ?_
        obtain ⟨t2, g2⟩ := HST.out.step (stabN _) (a := ()) B2.out trivial (fun (b : Nat) (hb : False) => hb.elim) hown4 hgr4 hat4
        have FF := hid g2
        clear g2
        go_wp2_with fail
        go_round
        case rel => exact ⟨k + 1, by omega, by go_num, sv, _, FF.out⟩
        case measure => simp [intOf]; omega
      · go_simp
        refine (HC.out _).mono ?_
        rintro e w2 ⟨rfl, hb2⟩
        have hc2 := cell_on hb2 hcD
        have B2 := hid hb2
        clear hb2
        go_wp2_with fail
        obtain ⟨v5, w4, hrun, hown4, hgr4, hat4⟩ := app_gen (w2 := w2) underF infoF rfl (by decide) (by decide) (owns_on (more (Below.drew (same wr)) B2.out) HST.out.g.own) (by omega) (by have := B2.out.size; have := HST.out.size; show _ ≤ w2.heap.size; simp at *; omega) #[.string (nm 102 k), .bool false, .slice none 0 0, .int .i64 0, .slice (some ⟨V + 1 + 1, 0, none⟩) 1 1] rfl (by intro x hx; simp at hx; rcases hx with rfl | rfl | rfl | rfl | rfl <;> rfl) 25
        obtain ⟨sv, rfl⟩ := owns_slv hown4
        have hc3 : (w2.alloc (.cells #[.string (nm 102 k), .bool false, .slice none 0 0, .int .i64 0, .slice (some ⟨V + 1 + 1, 0, none⟩) 1 1] 33)).cell? ⟨V, 3, none⟩ = some (.slice vs.a vs.n vs.c) := cell_on (new (same w2) _) hc2
        have hc4 : w4.cell? ⟨V, 3, none⟩ = some (.slice vs.a vs.n vs.c) := by rw [World.cell?_of_block (w := w2.alloc _) (hgr4.block V (by have := World.block_lt_of_cell? _ _ hc3; exact this) NV.out)]; exact hc3
        have fz4 : w4.frozen? ⟨V, 3, none⟩ = false := by rw [World.frozen?_of_block (w := w2.alloc _) (hgr4.block V (World.block_lt_of_cell? _ _ hc3) NV.out), World.frozen?_alloc_old _ _ _ (by have := World.block_lt_of_cell? _ _ hc2; show V ≠ _; simp at this ⊢; omega), B2.out.frozen (by have := World.block_lt_of_cell? _ _ hcD; simpa using this)]; exact HST.out.fz 3
        refine hK.out _ _ trivial (fun _ => ?_)
        clear hK K
        have hS := True.intro
        try simp only [Act.put, List.setIfInBounds_toArray, List.set_cons_zero, List.set_cons_succ]
        refine Go.Proofs.Ytnodofbpogcheaa.Wl.takeAt (i := 4) (d := some 62) (v := ?va6_4) rfl (by rfl) (by kernel_rfl) (by kernel_rfl) (by kernel_rfl) (fun _ _ _ h => h) (Or.inl ⟨by rfl, ?ya6_4⟩) hS ?_
        case ya6_4 => intro wx hSw; (go_simp) <;> with_reducible rfl
        simp only [Act.put, List.setIfInBounds_toArray, List.set_cons_zero, List.set_cons_succ]
        refine Go.Proofs.Ytnodofbpogcheaa.Wl.takeAt (i := 6) (d := some 64) (v := ?va6_6) rfl (by rfl) (by kernel_rfl) (by kernel_rfl) (by kernel_rfl) (fun _ _ _ h => h) (Or.inl ⟨by rfl, ?ya6_6⟩) hS ?_
        case ya6_6 => intro wx hSw; (go_simp) <;> with_reducible rfl
        simp only [Act.put, List.setIfInBounds_toArray, List.set_cons_zero, List.set_cons_succ]
        refine wpAnyH_ready (rs := [1, 7]) (by kernel_rfl) (by simp) ?_
        refine AllReadyH.cons rfl (fun K hK => ?_) (AllReadyH.cons rfl (fun K hK => ?_) AllReadyH.nil)
        · go_simp
          refine hK.out _ _ trivial (fun _ => ?_)
          clear hK K
          have hS := True.intro
          try simp only [Act.put, List.setIfInBounds_toArray, List.set_cons_zero, List.set_cons_succ]
          refine wpAnyH_ready (rs := [7]) (by kernel_rfl) (by simp) ?_
          refine AllReadyH.cons rfl (fun K hK => ?_) AllReadyH.nil
          go_simp
          refine hK.out _ _ trivial (fun _ => ?_)
          clear hK K
          have hS := True.intro
          try simp only [Act.put, List.setIfInBounds_toArray, List.set_cons_zero, List.set_cons_succ]
          refine wpAnyH_ready (rs := [8]) (by kernel_rfl) (by simp) ?_
          refine AllReadyH.cons rfl (fun K hK => ?_) AllReadyH.nil
          rw [if_pos (by rfl)]
          refine Go.Proofs.Ytnodofbpogcheaa.Wl.wp_app (s := .tmp 59) (x := .tmp 65) (t := 25) (d := some 66) rfl rfl rfl rfl rfl hrun ?_
          try simp only [Act.put, List.setIfInBounds_toArray, List.set_cons_zero, List.set_cons_succ]
          refine hK.out _ _ trivial (fun _ => ?_)
          clear hK K
          have hS := True.intro
          try simp only [Act.put, List.setIfInBounds_toArray, List.set_cons_zero, List.set_cons_succ]
          refine Go.Proofs.Ytnodofbpogcheaa.Wl.takeAt (i := 9) (d := some 67) (v := ?va9_9) rfl (by rfl) (by kernel_rfl) (by kernel_rfl) (by kernel_rfl) (fun _ _ _ h => h) (Or.inl ⟨by rfl, ?ya9_9⟩) hS ?_
          case ya9_9 => intro wx hSw; (go_simp) <;> with_reducible rfl
          simp only [Act.put, List.setIfInBounds_toArray, List.set_cons_zero, List.set_cons_succ]
          refine wpAnyH_ready (rs := [10]) (by kernel_rfl) (by simp) ?_
          refine AllReadyH.cons rfl (fun K hK => ?_) AllReadyH.nil
          go_simp
          refine hK.out _ _ trivial (fun _ => ?_)
          clear hK K
          have hS := True.intro
          try simp only [Act.put, List.setIfInBounds_toArray, List.set_cons_zero, List.set_cons_succ]
          refine wpAnyH_done (by kernel_rfl) ?_ _
          refine NoPanic.normal ?_
          obtain ⟨t2, g2⟩ := HST.out.step (stabN _) (a := ()) B2.out trivial (fun (b : Nat) (hb : False) => hb.elim) hown4 hgr4 hat4
          have FF := hid g2
          clear g2
          go_wp2_with fail
          go_round
          case rel => exact ⟨k + 1, by omega, by go_num, sv, _, FF.out⟩
          case measure => simp [intOf]; omega
        · go_simp
          refine hK.out _ _ trivial (fun _ => ?_)
          clear hK K
          have hS := True.intro
          try simp only [Act.put, List.setIfInBounds_toArray, List.set_cons_zero, List.set_cons_succ]
          refine wpAnyH_ready (rs := [1]) (by kernel_rfl) (by simp) ?_
          refine AllReadyH.cons rfl (fun K hK => ?_) AllReadyH.nil
          go_simp
          refine hK.out _ _ trivial (fun _ => ?_)
          clear hK K
          have hS := True.intro
          try simp only [Act.put, List.setIfInBounds_toArray, List.set_cons_zero, List.set_cons_succ]
          refine wpAnyH_ready (rs := [8]) (by kernel_rfl) (by simp) ?_
          refine AllReadyH.cons rfl (fun K hK => ?_) AllReadyH.nil
          rw [if_pos (by rfl)]
          refine Go.Proofs.Ytnodofbpogcheaa.Wl.wp_app (s := .tmp 59) (x := .tmp 65) (t := 25) (d := some 66) rfl rfl rfl rfl rfl hrun ?_
          try simp only [Act.put, List.setIfInBounds_toArray, List.set_cons_zero, List.set_cons_succ]
          refine hK.out _ _ trivial (fun _ => ?_)
          clear hK K
          have hS := True.intro
          try simp only [Act.put, List.setIfInBounds_toArray, List.set_cons_zero, List.set_cons_succ]
          refine Go.Proofs.Ytnodofbpogcheaa.Wl.takeAt (i := 9) (d := some 67) (v := ?va12_9) rfl (by rfl) (by kernel_rfl) (by kernel_rfl) (by kernel_rfl) (fun _ _ _ h => h) (Or.inl ⟨by rfl, ?ya12_9⟩) hS ?_
          case ya12_9 => intro wx hSw; (go_simp) <;> with_reducible rfl
          simp only [Act.put, List.setIfInBounds_toArray, List.set_cons_zero, List.set_cons_succ]
          refine wpAnyH_ready (rs := [10]) (by kernel_rfl) (by simp) ?_
          refine AllReadyH.cons rfl (fun K hK => ?_) AllReadyH.nil
          go_simp
          refine hK.out _ _ trivial (fun _ => ?_)
          clear hK K
          have hS := True.intro
          try simp only [Act.put, List.setIfInBounds_toArray, List.set_cons_zero, List.set_cons_succ]
          refine wpAnyH_done (by kernel_rfl) ?_ _
          refine NoPanic.normal ?_
          obtain ⟨t2, g2⟩ := HST.out.step (stabN _) (a := ()) B2.out trivial (fun (b : Nat) (hb : False) => hb.elim) hown4 hgr4 hat4
          have FF := hid g2
          clear g2
          go_wp2_with fail
          go_round
          case rel => exact ⟨k + 1, by omega, by go_num, sv, _, FF.out⟩
          case measure => simp [intOf]; omega
    · obtain rfl : k = 24 := by omega
      obtain ⟨hn, hrow⟩ := grow_row (p := FAt) (f := rF0 V) hst.g (by omega) (fun _ _ => rfl) (fun g i hi h => ⟨h 0 (by decide), h 1 (by decide), h 2 (by decide), h 3 (by decide), h 4 (by decide)⟩)
      have CK := hid (show Chks (.agg #[.slice none 0 0, .slice none 0 0, .slice none 0 0, .slice vs.a vs.n vs.c]) 0 wr from res_fun HK.out hrow hn (BD.out.1.blk2 hst) (by decide))
      have c3 := hst.c
      have c0 := (hst.o 0 (by decide)).trans BD.out.2.1
      have c1 := (hst.o 1 (by decide)).trans BD.out.2.2.1
      have c2 := (hst.o 2 (by decide)).trans BD.out.2.2.2
      have LO := hid hst.low
      clear hst hn hrow hlt
      go_wp2_with (go_at_call 15; refine (CK.out _ (same _)).mono ?_; rintro e w5 ⟨rfl, hb5⟩; have B5 := hid hb5; clear hb5)
      go_ret
      exact ⟨rfl, View.more (View.more st1.out LO.out) B5.out⟩

set_option maxRecDepth 10000 in
set_option maxHeartbeats 8000000 in
theorem lim0_true (which : Int) (w : World) (hck : ChkC) (hfi : ∀ w, Calls Try.prog 13 #[] w fun e w' => e = .returned (.bool true) ∧ Below w.heap.size w w') (a0 : Nat) (h1 : bits .and .i64 which 255 = (a0 : Int)) (h2 : (a0 : Int).tmod 6 = 0) :
    Calls Try.prog 4 #[.int .i64 which, .bool true] w fun e w' => e = .returned (.bool true) ∧ Below w.heap.size w w' := by
  have HF := hid hfi
  have HK := hid hck
  clear hfi hck
  go_enter Try.func4, Try.ntmps4
  go_wp2_with (go_at_call 13; refine (HF.out _).mono ?_; rintro e w1 ⟨rfl, hb⟩; have st1 := hid hb; clear hb)
  clear h1 h2
  obtain ⟨V, hV⟩ : ∃ V, w1.heap.size = V := ⟨_, rfl⟩
  rw [hV]
  obtain ⟨W0, hW0⟩ : ∃ W0, ((w1.alloc (.cells #[.slice none 0 0, .slice none 0 0, .slice none 0 0, .slice none 0 0] 27)).alloc (.cells #[.int .i64 29, .int .i64 0, .int .i64 0, .int .i64 0, .int .i64 0, .slice none 0 0, .slice none 0 0] 39)).alloc (.cells #[.slice (some ⟨V + 1, 0, none⟩) 1 1] 37) = W0 := ⟨_, rfl⟩
  rw [hW0]
  have ST := hid (show GSt w1 W0 V 33 5 0 3 (csR (V + 1 + 1)) noEl noFp W0 (slv ⟨none, 0, 0⟩) (fun _ => ()) from by
    subst hV hW0
    exact GSt.start () (cell_on (new (new (same _) _) _) (by simp)) (fun i => by rw [World.frozen?_alloc_old _ _ _ (by show w1.heap.size ≠ _; simp; omega), World.frozen?_alloc_old _ _ _ (by show w1.heap.size ≠ _; simp)]; exact World.frozen?_alloc_new _ _ _ i) (new (new (new (same _) _) _) _) (by simp; omega) (Nat.le_refl _))
  have BD := hid (show BodyAt W0 V ∧ W0.cell? ⟨V, 0, none⟩ = some (.slice none 0 0) ∧ W0.cell? ⟨V, 1, none⟩ = some (.slice none 0 0) ∧ W0.cell? ⟨V, 2, none⟩ = some (.slice none 0 0) from by subst hV hW0; exact ⟨bodyAt_new w1, cell_on (new (new (same _) _) _) (by simp), cell_on (new (new (same _) _) _) (by simp), cell_on (new (new (same _) _) _) (by simp)⟩)
  clear hW0
  go_loopw [8] (fun i wr => ∃ k : Nat, k ≤ 25 ∧ i = .int .i64 k ∧ ∃ (vs : Sl) (t : Nat → Unit), GSt w1 W0 V 33 5 k 3 (csR (V + 1 + 1)) noEl noFp wr (slv vs) t) (fun i _ => 25 - (intOf i).toNat)
  case atStart => exact ⟨0, Nat.zero_le _, rfl, _, _, ST.out⟩
  case round =>
    obtain ⟨k, hk, rfl, vs, t, hst⟩ := hrel
    by_cases hlt : k < 25
    · have hcV : wr.cell? ⟨V, 3, none⟩ = some (.slice vs.a vs.n vs.c) := hst.c
      have hcD : wr.drew.cell? ⟨V, 3, none⟩ = some (.slice vs.a vs.n vs.c) := hst.c
      have NV := hid (show some V ≠ (slv vs).ownBlock from fun e => by have := (hst.g.own.lt V e.symm).1; have := hst.lt; omega)
      have HST := hid hst
      obtain ⟨d, hd⟩ : ∃ d, Lx.shown (k : Int) = d := ⟨_, rfl⟩
      have hds : d.size ≤ 21 := by rw [← hd]; exact Lx.shown_small ⟨by omega, by omega⟩
      have hds2 : ¬ 9223372036854775807 < 1 + d.size := by omega
      have hn : (⟨#[102]⟩ : ByteArray) ++ d = nm 102 k := by rw [← hd]; exact nm_show 102 k
      have HC := hid (show ∀ w1, Calls Try.prog 14 #[.int .i64 k] w1 fun e w' => e = .returned (.string d) ∧ Below w1.heap.size w1 w' from fun w1 => by rw [← hd]; exact Lx.rshow_any k w1 ⟨by omega, by omega⟩)
      clear hst hd
      go_wp2_with fail
      refine wp_region_noPanic ?_
      refine wp_region_held_drew (S := fun _ => True) (by kernel_rfl) trivial (fun hS => ?_)
      refine Go.Proofs.Ytnodofbpogcheaa.Wl.takeAt (i := 0) (d := some 58) (v := ?va1_0) rfl (by rfl) (by kernel_rfl) (by kernel_rfl) (by kernel_rfl) (fun _ _ _ h => h) (Or.inl ⟨by rfl, ?ya1_0⟩) hS ?_
      case ya1_0 => intro wx hSw; (go_simp) <;> with_reducible rfl
      simp only [Act.put, List.setIfInBounds_toArray, List.set_cons_zero, List.set_cons_succ]
      refine Go.Proofs.Ytnodofbpogcheaa.Wl.takeAt (i := 2) (d := some 60) (v := ?va1_2) rfl (by rfl) (by kernel_rfl) (by kernel_rfl) (by kernel_rfl) (fun _ _ _ h => h) (Or.inl ⟨by rfl, ?ya1_2⟩) hS ?_
      case ya1_2 => intro wx hSw; (go_simp) <;> with_reducible rfl
      simp only [Act.put, List.setIfInBounds_toArray, List.set_cons_zero, List.set_cons_succ]
      refine Go.Proofs.Ytnodofbpogcheaa.Wl.takeAt (i := 5) (d := some 63) (v := ?va1_5) rfl (by rfl) (by kernel_rfl) (by kernel_rfl) (by kernel_rfl) (fun _ _ _ h => h) (Or.inl ⟨by rfl, ?ya1_5⟩) hS ?_
      case ya1_5 => intro wx hSw; (go_simp) <;> with_reducible rfl
      simp only [Act.put, List.setIfInBounds_toArray, List.set_cons_zero, List.set_cons_succ]
      refine wpAnyH_ready (rs := [1, 3]) (by kernel_rfl) (by simp) ?_
      refine AllReadyH.cons rfl (fun K hK => ?_) (AllReadyH.cons rfl (fun K hK => ?_) AllReadyH.nil)
      · go_simp
        refine hK.out _ _ trivial (fun _ => ?_)
        clear hK K
        have hS := True.intro
        try simp only [Act.put, List.setIfInBounds_toArray, List.set_cons_zero, List.set_cons_succ]
        refine wpAnyH_ready (rs := [3]) (by kernel_rfl) (by simp) ?_
        refine AllReadyH.cons rfl (fun K hK => ?_) AllReadyH.nil
        go_simp
        refine (HC.out _).mono ?_
        rintro e w2 ⟨rfl, hb2⟩
        have hc2 := cell_on hb2 hcD
        have B2 := hid hb2
        clear hb2
        go_wp2_with fail
        obtain ⟨v5, w4, hrun, hown4, hgr4, hat4⟩ := app_gen (w2 := w2) underF infoF rfl (by decide) (by decide) (owns_on (more (Below.drew (same wr)) B2.out) HST.out.g.own) (by omega) (by have := B2.out.size; have := HST.out.size; show _ ≤ w2.heap.size; simp at *; omega) #[.string (nm 102 k), .bool false, .slice none 0 0, .int .i64 0, .slice (some ⟨V + 1 + 1, 0, none⟩) 1 1] rfl (by intro x hx; simp at hx; rcases hx with rfl | rfl | rfl | rfl | rfl <;> rfl) 25
        obtain ⟨sv, rfl⟩ := owns_slv hown4
        have hc3 : (w2.alloc (.cells #[.string (nm 102 k), .bool false, .slice none 0 0, .int .i64 0, .slice (some ⟨V + 1 + 1, 0, none⟩) 1 1] 33)).cell? ⟨V, 3, none⟩ = some (.slice vs.a vs.n vs.c) := cell_on (new (same w2) _) hc2
        have hc4 : w4.cell? ⟨V, 3, none⟩ = some (.slice vs.a vs.n vs.c) := by rw [World.cell?_of_block (w := w2.alloc _) (hgr4.block V (by have := World.block_lt_of_cell? _ _ hc3; exact this) NV.out)]; exact hc3
        have fz4 : w4.frozen? ⟨V, 3, none⟩ = false := by rw [World.frozen?_of_block (w := w2.alloc _) (hgr4.block V (World.block_lt_of_cell? _ _ hc3) NV.out), World.frozen?_alloc_old _ _ _ (by have := World.block_lt_of_cell? _ _ hc2; show V ≠ _; simp at this ⊢; omega), B2.out.frozen (by have := World.block_lt_of_cell? _ _ hcD; simpa using this)]; exact HST.out.fz 3
        refine hK.out _ _ trivial (fun _ => ?_)
        clear hK K
        have hS := True.intro
        try simp only [Act.put, List.setIfInBounds_toArray, List.set_cons_zero, List.set_cons_succ]
        refine Go.Proofs.Ytnodofbpogcheaa.Wl.takeAt (i := 4) (d := some 62) (v := ?va3_4) rfl (by rfl) (by kernel_rfl) (by kernel_rfl) (by kernel_rfl) (fun _ _ _ h => h) (Or.inl ⟨by rfl, ?ya3_4⟩) hS ?_
        case ya3_4 => intro wx hSw; (go_simp) <;> with_reducible rfl
        simp only [Act.put, List.setIfInBounds_toArray, List.set_cons_zero, List.set_cons_succ]
        refine Go.Proofs.Ytnodofbpogcheaa.Wl.takeAt (i := 6) (d := some 64) (v := ?va3_6) rfl (by rfl) (by kernel_rfl) (by kernel_rfl) (by kernel_rfl) (fun _ _ _ h => h) (Or.inl ⟨by rfl, ?ya3_6⟩) hS ?_
        case ya3_6 => intro wx hSw; (go_simp) <;> with_reducible rfl
        simp only [Act.put, List.setIfInBounds_toArray, List.set_cons_zero, List.set_cons_succ]
        refine wpAnyH_ready (rs := [7]) (by kernel_rfl) (by simp) ?_
        refine AllReadyH.cons rfl (fun K hK => ?_) AllReadyH.nil
        go_simp
        refine hK.out _ _ trivial (fun _ => ?_)
        clear hK K
        have hS := True.intro
        try simp only [Act.put, List.setIfInBounds_toArray, List.set_cons_zero, List.set_cons_succ]
        refine wpAnyH_ready (rs := [8]) (by kernel_rfl) (by simp) ?_
        refine AllReadyH.cons rfl (fun K hK => ?_) AllReadyH.nil
        rw [if_pos (by rfl)]
        refine Go.Proofs.Ytnodofbpogcheaa.Wl.wp_app (s := .tmp 59) (x := .tmp 65) (t := 25) (d := some 66) rfl rfl rfl rfl rfl hrun ?_
        try simp only [Act.put, List.setIfInBounds_toArray, List.set_cons_zero, List.set_cons_succ]
        refine hK.out _ _ trivial (fun _ => ?_)
        clear hK K
        have hS := True.intro
        try simp only [Act.put, List.setIfInBounds_toArray, List.set_cons_zero, List.set_cons_succ]
        refine Go.Proofs.Ytnodofbpogcheaa.Wl.takeAt (i := 9) (d := some 67) (v := ?va5_9) rfl (by rfl) (by kernel_rfl) (by kernel_rfl) (by kernel_rfl) (fun _ _ _ h => h) (Or.inl ⟨by rfl, ?ya5_9⟩) hS ?_
        case ya5_9 => intro wx hSw; (go_simp) <;> with_reducible rfl
        simp only [Act.put, List.setIfInBounds_toArray, List.set_cons_zero, List.set_cons_succ]
        refine wpAnyH_ready (rs := [10]) (by kernel_rfl) (by simp) ?_
        refine AllReadyH.cons rfl (fun K hK => ?_) AllReadyH.nil
        go_simp
        refine hK.out _ _ trivial (fun _ => ?_)
        clear hK K
        have hS := True.intro
        try simp only [Act.put, List.setIfInBounds_toArray, List.set_cons_zero, List.set_cons_succ]
        refine wpAnyH_done (by kernel_rfl) ?_ _
        refine NoPanic.normal ?_
        obtain ⟨t2, g2⟩ := HST.out.step (stabN _) (a := ()) B2.out trivial (fun (b : Nat) (hb : False) => hb.elim) hown4 hgr4 hat4
        have FF := hid g2
        clear g2
        go_wp2_with fail
        go_round
        case rel => exact ⟨k + 1, by omega, by go_num, sv, _, FF.out⟩
        case measure => simp [intOf]; omega
      · go_simp
        refine (HC.out _).mono ?_
        rintro e w2 ⟨rfl, hb2⟩
        have hc2 := cell_on hb2 hcD
        have B2 := hid hb2
        clear hb2
        go_wp2_with fail
        obtain ⟨v5, w4, hrun, hown4, hgr4, hat4⟩ := app_gen (w2 := w2) underF infoF rfl (by decide) (by decide) (owns_on (more (Below.drew (same wr)) B2.out) HST.out.g.own) (by omega) (by have := B2.out.size; have := HST.out.size; show _ ≤ w2.heap.size; simp at *; omega) #[.string (nm 102 k), .bool false, .slice none 0 0, .int .i64 0, .slice (some ⟨V + 1 + 1, 0, none⟩) 1 1] rfl (by intro x hx; simp at hx; rcases hx with rfl | rfl | rfl | rfl | rfl <;> rfl) 25
        obtain ⟨sv, rfl⟩ := owns_slv hown4
        have hc3 : (w2.alloc (.cells #[.string (nm 102 k), .bool false, .slice none 0 0, .int .i64 0, .slice (some ⟨V + 1 + 1, 0, none⟩) 1 1] 33)).cell? ⟨V, 3, none⟩ = some (.slice vs.a vs.n vs.c) := cell_on (new (same w2) _) hc2
        have hc4 : w4.cell? ⟨V, 3, none⟩ = some (.slice vs.a vs.n vs.c) := by rw [World.cell?_of_block (w := w2.alloc _) (hgr4.block V (by have := World.block_lt_of_cell? _ _ hc3; exact this) NV.out)]; exact hc3
        have fz4 : w4.frozen? ⟨V, 3, none⟩ = false := by rw [World.frozen?_of_block (w := w2.alloc _) (hgr4.block V (World.block_lt_of_cell? _ _ hc3) NV.out), World.frozen?_alloc_old _ _ _ (by have := World.block_lt_of_cell? _ _ hc2; show V ≠ _; simp at this ⊢; omega), B2.out.frozen (by have := World.block_lt_of_cell? _ _ hcD; simpa using this)]; exact HST.out.fz 3
        refine hK.out _ _ trivial (fun _ => ?_)
        clear hK K
        have hS := True.intro
        try simp only [Act.put, List.setIfInBounds_toArray, List.set_cons_zero, List.set_cons_succ]
        refine Go.Proofs.Ytnodofbpogcheaa.Wl.takeAt (i := 4) (d := some 62) (v := ?va6_4) rfl (by rfl) (by kernel_rfl) (by kernel_rfl) (by kernel_rfl) (fun _ _ _ h => h) (Or.inl ⟨by rfl, ?ya6_4⟩) hS ?_
        case ya6_4 => intro wx hSw; (go_simp) <;> with_reducible rfl
        simp only [Act.put, List.setIfInBounds_toArray, List.set_cons_zero, List.set_cons_succ]
        refine Go.Proofs.Ytnodofbpogcheaa.Wl.takeAt (i := 6) (d := some 64) (v := ?va6_6) rfl (by rfl) (by kernel_rfl) (by kernel_rfl) (by kernel_rfl) (fun _ _ _ h => h) (Or.inl ⟨by rfl, ?ya6_6⟩) hS ?_
        case ya6_6 => intro wx hSw; (go_simp) <;> with_reducible rfl
        simp only [Act.put, List.setIfInBounds_toArray, List.set_cons_zero, List.set_cons_succ]
        refine wpAnyH_ready (rs := [1, 7]) (by kernel_rfl) (by simp) ?_
        refine AllReadyH.cons rfl (fun K hK => ?_) (AllReadyH.cons rfl (fun K hK => ?_) AllReadyH.nil)
        · go_simp
          refine hK.out _ _ trivial (fun _ => ?_)
          clear hK K
          have hS := True.intro
          try simp only [Act.put, List.setIfInBounds_toArray, List.set_cons_zero, List.set_cons_succ]
          refine wpAnyH_ready (rs := [7]) (by kernel_rfl) (by simp) ?_
          refine AllReadyH.cons rfl (fun K hK => ?_) AllReadyH.nil
          go_simp
          refine hK.out _ _ trivial (fun _ => ?_)
          clear hK K
          have hS := True.intro
          try simp only [Act.put, List.setIfInBounds_toArray, List.set_cons_zero, List.set_cons_succ]
          refine wpAnyH_ready (rs := [8]) (by kernel_rfl) (by simp) ?_
          refine AllReadyH.cons rfl (fun K hK => ?_) AllReadyH.nil
          rw [if_pos (by rfl)]
          refine Go.Proofs.Ytnodofbpogcheaa.Wl.wp_app (s := .tmp 59) (x := .tmp 65) (t := 25) (d := some 66) rfl rfl rfl rfl rfl hrun ?_
          try simp only [Act.put, List.setIfInBounds_toArray, List.set_cons_zero, List.set_cons_succ]
          refine hK.out _ _ trivial (fun _ => ?_)
          clear hK K
          have hS := True.intro
          try simp only [Act.put, List.setIfInBounds_toArray, List.set_cons_zero, List.set_cons_succ]
          refine Go.Proofs.Ytnodofbpogcheaa.Wl.takeAt (i := 9) (d := some 67) (v := ?va9_9) rfl (by rfl) (by kernel_rfl) (by kernel_rfl) (by kernel_rfl) (fun _ _ _ h => h) (Or.inl ⟨by rfl, ?ya9_9⟩) hS ?_
          case ya9_9 => intro wx hSw; (go_simp) <;> with_reducible rfl
          simp only [Act.put, List.setIfInBounds_toArray, List.set_cons_zero, List.set_cons_succ]
          refine wpAnyH_ready (rs := [10]) (by kernel_rfl) (by simp) ?_
          refine AllReadyH.cons rfl (fun K hK => ?_) AllReadyH.nil
          go_simp
          refine hK.out _ _ trivial (fun _ => ?_)
          clear hK K
          have hS := True.intro
          try simp only [Act.put, List.setIfInBounds_toArray, List.set_cons_zero, List.set_cons_succ]
          refine wpAnyH_done (by kernel_rfl) ?_ _
          refine NoPanic.normal ?_
          obtain ⟨t2, g2⟩ := HST.out.step (stabN _) (a := ()) B2.out trivial (fun (b : Nat) (hb : False) => hb.elim) hown4 hgr4 hat4
          have FF := hid g2
          clear g2
          go_wp2_with fail
          go_round
          case rel => exact ⟨k + 1, by omega, by go_num, sv, _, FF.out⟩
          case measure => simp [intOf]; omega
        · go_simp
          refine hK.out _ _ trivial (fun _ => ?_)
          clear hK K
          have hS := True.intro
          try simp only [Act.put, List.setIfInBounds_toArray, List.set_cons_zero, List.set_cons_succ]
          refine wpAnyH_ready (rs := [1]) (by kernel_rfl) (by simp) ?_
          refine AllReadyH.cons rfl (fun K hK => ?_) AllReadyH.nil
          go_simp
          refine hK.out _ _ trivial (fun _ => ?_)
          clear hK K
          have hS := True.intro
          try simp only [Act.put, List.setIfInBounds_toArray, List.set_cons_zero, List.set_cons_succ]
          refine wpAnyH_ready (rs := [8]) (by kernel_rfl) (by simp) ?_
          refine AllReadyH.cons rfl (fun K hK => ?_) AllReadyH.nil
          rw [if_pos (by rfl)]
          refine Go.Proofs.Ytnodofbpogcheaa.Wl.wp_app (s := .tmp 59) (x := .tmp 65) (t := 25) (d := some 66) rfl rfl rfl rfl rfl hrun ?_
          try simp only [Act.put, List.setIfInBounds_toArray, List.set_cons_zero, List.set_cons_succ]
          refine hK.out _ _ trivial (fun _ => ?_)
          clear hK K
          have hS := True.intro
          try simp only [Act.put, List.setIfInBounds_toArray, List.set_cons_zero, List.set_cons_succ]
          refine Go.Proofs.Ytnodofbpogcheaa.Wl.takeAt (i := 9) (d := some 67) (v := ?va12_9) rfl (by rfl) (by kernel_rfl) (by kernel_rfl) (by kernel_rfl) (fun _ _ _ h => h) (Or.inl ⟨by rfl, ?ya12_9⟩) hS ?_
          case ya12_9 => intro wx hSw; (go_simp) <;> with_reducible rfl
          simp only [Act.put, List.setIfInBounds_toArray, List.set_cons_zero, List.set_cons_succ]
          refine wpAnyH_ready (rs := [10]) (by kernel_rfl) (by simp) ?_
          refine AllReadyH.cons rfl (fun K hK => ?_) AllReadyH.nil
          go_simp
          refine hK.out _ _ trivial (fun _ => ?_)
          clear hK K
          have hS := True.intro
          try simp only [Act.put, List.setIfInBounds_toArray, List.set_cons_zero, List.set_cons_succ]
          refine wpAnyH_done (by kernel_rfl) ?_ _
          refine NoPanic.normal ?_
          obtain ⟨t2, g2⟩ := HST.out.step (stabN _) (a := ()) B2.out trivial (fun (b : Nat) (hb : False) => hb.elim) hown4 hgr4 hat4
          have FF := hid g2
          clear g2
          go_wp2_with fail
          go_round
          case rel => exact ⟨k + 1, by omega, by go_num, sv, _, FF.out⟩
          case measure => simp [intOf]; omega
    · obtain rfl : k = 25 := by omega
      obtain ⟨hn, hrow⟩ := grow_row (p := FAt) (f := rF0 V) hst.g (by omega) (fun _ _ => rfl) (fun g i hi h => ⟨h 0 (by decide), h 1 (by decide), h 2 (by decide), h 3 (by decide), h 4 (by decide)⟩)
      have CK := hid (show Chks (.agg #[.slice none 0 0, .slice none 0 0, .slice none 0 0, .slice vs.a vs.n vs.c]) 2 wr from res_fun HK.out hrow hn (BD.out.1.blk2 hst) (by decide))
      have c3 := hst.c
      have c0 := (hst.o 0 (by decide)).trans BD.out.2.1
      have c1 := (hst.o 1 (by decide)).trans BD.out.2.2.1
      have c2 := (hst.o 2 (by decide)).trans BD.out.2.2.2
      have LO := hid hst.low
      clear hst hn hrow hlt
      go_wp2_with (go_at_call 15; refine (CK.out _ (same _)).mono ?_; rintro e w5 ⟨rfl, hb5⟩; have B5 := hid hb5; clear hb5)
      go_ret
      exact ⟨rfl, View.more (View.more st1.out LO.out) B5.out⟩

end Go.Proofs.Ytnodofbpogcheaa.Wf

/-
  WfLimits: what wf.Check answers at each of the modules.
-/
namespace Go.Proofs.Ytnodofbpogcheaa.Wf
open Go.RowKit View Rd Num Copy Go.Proofs.Ytnodofbpogcheaa.Mod Go.Proofs.Ytnodofbpogcheaa.Wl Go.Proofs.Ytnodofbpogcheaa.Chk Go.Proofs.Ytnodofbpogcheaa.Flo

set_option linter.unusedVariables false

theorem ints_one {w : World} {a : Nat} {x : Int} (h : w.cell? ⟨a, 0, none⟩ = some (.int .i64 x)) : Ints w ⟨some ⟨a, 0, none⟩, 1, 1⟩ (fun _ => x) := by
  refine ⟨Nat.le_refl _, by show 1 ≤ _; omega, fun h => by simp at h, fun _ => ⟨a, 0, rfl, fun i hi => ?_⟩⟩
  obtain rfl : i = 0 := by simp at hi; omega
  exact h

theorem inss_one {w : World} {r : Nat} {v : IV} (h : InsAt w r 0 v) : Inss w ⟨some ⟨r, 0, none⟩, 1, 1⟩ (fun _ => v) := by
  refine ⟨Nat.le_refl _, by show 1 ≤ _; omega, fun h => by simp at h, fun _ => ⟨r, 0, rfl, fun i hi => ?_⟩⟩
  obtain rfl : i = 0 := by simp at hi; omega
  exact h

theorem good_f : Chk.Good ((List.range 1).map fun _ => (⟨#[102]⟩ : ByteArray)) := by
  refine ⟨fun s h => ?_, by simp⟩
  have : s = ⟨#[102]⟩ := by simpa using h
  rw [this]; exact name_f

theorem name_g : NameOk ⟨#[103]⟩ := by
  refine ⟨by decide, by decide, by decide +kernel, by decide +kernel, fun i hi => ?_⟩
  have hi' : i < 1 := hi
  obtain rfl : i = 0 := by omega
  decide +kernel

theorem good_g : Chk.Good ((List.range 1).map fun _ => (⟨#[103]⟩ : ByteArray)) := by
  refine ⟨fun s h => ?_, by simp⟩
  have : s = ⟨#[103]⟩ := by simpa using h
  rw [this]; exact name_g

/-- Globals of one cell. -/
abbrev gF0 (t : Nat → Nat) (i : Nat) : GV := ⟨nm 103 i, ⟨some ⟨t i, 0, none⟩, 1, 1⟩⟩

theorem res_glo (hck : ChkC) {w : World} {vs : Sl} {t : Nat → Nat} {n : Nat} (hr : Row 2 GAt w vs (gF0 t)) (hn : vs.n = n) (hc : ∀ i, i < n → w.cell? ⟨t i, 0, none⟩ = some (.int .i64 0)) (hm : n ≤ 14) : Chks (.agg #[.slice none 0 0, .slice vs.a vs.n vs.c, .slice none 0 0, .slice none 0 0]) (if n ≤ 12 then 0 else 2) w := by
  refine chks_of hck (M := gloM vs (gF0 t) (fun _ _ => 0)) (inM_glo hr (fun i hi => ints_one (hc i (by omega)))) (small_glo _ _ _ (by omega) (fun i hi => ⟨by have := nm_size (c := 103) (i := i) (by omega); show (nm 103 i).size ≤ 40; omega, show 1 ≤ 20 by decide⟩)) (fun i hi => absurd (show i < 0 from hi) (by omega)) ?_
  by_cases h : n ≤ 12
  · rw [if_pos h]
    exact err_ok (fit_glo vs (gF0 t) _ (by omega) (fun i hi => ⟨show 1 ≤ 1 by decide, show 1 ≤ 16 by decide⟩) (good_nm okD_g inD_g vs.n (by omega)))
  · rw [if_neg h]
    exact err_lim (fun hl => by have : vs.n ≤ 12 := hl.glo; omega)

theorem res_cel (hck : ChkC) {w : World} {vs c : Sl} {n : Nat} (hr : Row 2 GAt w vs (fun _ => ⟨⟨#[103]⟩, c⟩)) (hn : vs.n = 1) (hc : Ints w c (fun _ => 0)) (hcn : c.n = n) (h0 : 1 ≤ n) (hm : n ≤ 20) : Chks (.agg #[.slice none 0 0, .slice vs.a vs.n vs.c, .slice none 0 0, .slice none 0 0]) (if n ≤ 16 then 0 else 2) w := by
  refine chks_of hck (M := gloM vs (fun _ => ⟨⟨#[103]⟩, c⟩) (fun _ _ => 0)) (inM_glo hr (fun i hi => hc)) (small_glo _ _ _ (by omega) (fun i hi => ⟨show 1 ≤ 40 by decide, by show c.n ≤ 20; omega⟩)) (fun i hi => absurd (show i < 0 from hi) (by omega)) ?_
  by_cases h : n ≤ 16
  · rw [if_pos h]
    exact err_ok (fit_glo vs _ _ (by omega) (fun i hi => ⟨by show 1 ≤ c.n; omega, by show c.n ≤ 16; omega⟩) (by rw [hn]; exact good_g))
  · rw [if_neg h]
    exact err_lim (fun hl => by have : c.n ≤ 16 := (hl.gloC 0 (by show 0 < vs.n; omega)).2; omega)

theorem res_par (hck : ChkC) {w : World} {vs p : Sl} {V n : Nat} (hr : Row 5 FAt w vs (fun _ => blkF ⟨#[102]⟩ p ⟨some ⟨V + 1 + 1, 0, none⟩, 1, 1⟩ (fun _ => ⟨some ⟨V + 1, 0, none⟩, 1, 1⟩) (fun _ _ => retI) (fun _ _ _ => 0))) (hn : vs.n = 1) (hbd : BodyAt w V) (hp : Ints w p (fun _ => 1)) (hpn : p.n = n) (hm : n ≤ 8) : Chks (.agg #[.slice none 0 0, .slice none 0 0, .slice none 0 0, .slice vs.a vs.n vs.c]) (if n ≤ 5 then 0 else 2) w := by
  refine chks_of hck (M := funM vs _) (inM_fun hr (fun i hi => in_ret hbd _ _ hp)) (small_fun _ _ (by omega) (fun i hi => ret_light _ _ _ _ (by decide) (by omega)) ?_) (fun i hi => jng_ret _ _ _ _) ?_
  · rw [hn]; show 0 + (0 + 1) ≤ 400; decide
  · by_cases h : n ≤ 5
    · rw [if_pos h]
      exact err_ok (fit_fun vs _ (by omega) (fun i hi => ret_lim _ _ _ _ (by omega)) (fun i hi => ret_ok _ _ _ _) (by rw [hn]; exact good_f))
    · rw [if_neg h]
      exact err_lim (fun hl => by have : p.n ≤ 5 := (hl.fnI 0 (by show 0 < vs.n; omega)).par; omega)

theorem cnt_one {f : Nat → Nat} {n : Nat} (h : ∀ j, j < n → f j = 1) : cnt f n = n := by
  induction n with
  | zero => rfl
  | succ n ih => rw [cnt, ih (fun j hj => h j (by omega)), h n (by omega)]

theorem res_ch (hck : ChkC) {w : World} {vs s : Sl} {B : Nat → Sl} {a : Nat → Nat} {n : Nat} (hr : Row 5 FAt w vs (fun _ => chF s B n a)) (hn : vs.n = 1) (h0 : 1 ≤ n) (hm : n ≤ 48) (hs : s.n = n) (hB : ∀ j, j < n → (B j).n = 1) (hS : Sls w s B) (hI : ∀ j, j < n → Inss w (B j) (fun _ => chI n a j)) (hJ : ∀ j, j + 1 < n → w.cell? ⟨a j, 0, none⟩ = some (.int .i64 ((j + 1 : Nat) : Int))) :
    Chks (.agg #[.slice none 0 0, .slice none 0 0, .slice none 0 0, .slice vs.a vs.n vs.c]) (if n ≤ 40 then 0 else 2) w := by
  have hin : In w (chF s B n a) := by
    refine ⟨litN _ _, hS, fun j hj => hI j (by rw [← hs]; exact hj), fun j hj k hk => ?_, fun j hj k hk => ?_⟩
    · show Ints w (chI n a j).args _
      have : (chI n a j).args = no0 := by unfold chI; split <;> rfl
      rw [this]; exact litN _ _
    · have hj' : j < n := by rw [← hs]; exact hj
      show Ints w (chI n a j).into (fun _ => ((j + 1 : Nat) : Int))
      by_cases hl : j + 1 < n
      · have : (chI n a j).into = ⟨some ⟨a j, 0, none⟩, 1, 1⟩ := by unfold chI; rw [if_pos hl]
        rw [this]; exact ints_one (hJ j hl)
      · have : (chI n a j).into = no0 := by unfold chI; rw [if_neg hl]
        rw [this]; exact litN _ _
  refine chks_of hck (M := funM vs _) (inM_fun hr (fun i hi => hin)) (small_fun _ _ (by omega) (fun i hi => ch_light s B a n hm hs hB) ?_) (fun i hi => ch_jng s B a n hm hs) ?_
  · rw [hn]
    have : fsize (chF s B n a) = n := by show cnt (fun j => (B j).n) s.n = n; rw [hs]; exact cnt_one hB
    show 0 + fsize (chF s B n a) ≤ 400
    omega
  · by_cases h : n ≤ 40
    · rw [if_pos h]
      exact err_ok (fit_fun vs _ (by omega) (fun i hi => ch_lim s B a n h0 h hs hB) (fun i hi => ch_ok s B a n h0 hs hB) (by rw [hn]; exact good_f))
    · rw [if_neg h]
      exact err_lim (fun hl => by have : s.n ≤ 40 := (hl.fnI 0 (by show 0 < vs.n; omega)).blk; omega)

theorem res_nu (hck : ChkC) {w : World} {vs r : Sl} {b n : Nat} (hr : Row 5 FAt w vs (fun _ => nuF b r n)) (hn : vs.n = 1) (h0 : 1 ≤ n) (hm : n ≤ 400) (hrn : r.n = n) (hS : w.cell? ⟨b, 0, none⟩ = some (.slice r.a r.n r.c)) (hI : Inss w r (nuI n)) :
    Chks (.agg #[.slice none 0 0, .slice none 0 0, .slice none 0 0, .slice vs.a vs.n vs.c]) (if n ≤ 300 then 0 else 2) w := by
  have hin : In w (nuF b r n) := by
    refine ⟨litN _ _, ⟨Nat.le_refl _, by show 1 ≤ _; omega, fun h => by simp at h, fun _ => ⟨b, 0, rfl, fun i hi => ?_⟩⟩, fun j hj => hI, fun j hj k hk => ?_, fun j hj k hk => ?_⟩
    · obtain rfl : i = 0 := by simp at hi; omega
      exact hS
    · show Ints w (nuI n k).args _
      have : (nuI n k).args = no0 := by unfold nuI; split <;> rfl
      rw [this]; exact litN _ _
    · show Ints w (nuI n k).into _
      have : (nuI n k).into = no0 := by unfold nuI; split <;> rfl
      rw [this]; exact litN _ _
  refine chks_of hck (M := funM vs _) (inM_fun hr (fun i hi => hin)) (small_fun _ _ (by omega) (fun i hi => nu_light b r n hm hrn) ?_) (fun i hi => nu_jng b r n) ?_
  · rw [hn]
    show 0 + (0 + r.n) ≤ 400
    omega
  · by_cases h : n ≤ 300
    · rw [if_pos h]
      exact err_ok (fit_fun vs _ (by omega) (fun i hi => nu_lim b r n h hrn) (fun i hi => nu_ok b r n h0 hrn) (by rw [hn]; exact good_f))
    · rw [if_neg h]
      refine err_lim (fun hl => ?_)
      have : 0 + r.n ≤ 300 := (hl.fnI 0 (by show 0 < vs.n; omega)).ins
      omega

theorem infoGl : (Try.prog.info? 48).map (fun i => (i.zero, i.size, i.bytes)) = some (some (.agg #[.string ByteArray.empty, .slice none 0 0]), 2, 40) := by kernel_rfl
theorem underGl : Try.prog.underlying 23 = some (.slice 48) := by kernel_rfl
theorem infoBk : (Try.prog.info? 37).map (fun i => (i.zero, i.size, i.bytes)) = some (some (.agg #[.slice none 0 0]), 1, 24) := by kernel_rfl
theorem underBk : Try.prog.underlying 31 = some (.slice 37) := by kernel_rfl
theorem infoIn : (Try.prog.info? 39).map (fun i => (i.zero, i.size, i.bytes)) = some (some (.agg #[.int .i64 0, .int .i64 0, .int .i64 0, .int .i64 0, .int .i64 0, .slice none 0 0, .slice none 0 0]), 7, 88) := by kernel_rfl
theorem underIn : Try.prog.underlying 35 = some (.slice 39) := by kernel_rfl

/-- As Grow.step, whatever the append began with. -/
theorem Wl.Grow.stepg {α : Type} {X0 T z k : Nat} {w w2 w4 : World} {v v' : Value} {cs : Nat → α → List Value} {El : World → Nat → α → Prop} {Fp : α → Nat → Prop} {t : Nat → α} (st : Stable El Fp) (h : Grow X0 T z k w v cs El Fp t) (h0 : X0 ≤ w.heap.size) {a : α} (hb2 : Below w.heap.size w w2) (ha : El w2 k a)
    (hf : ∀ b, Fp a b → w.heap.size ≤ b ∧ b < w2.heap.size) (own4 : w4.ownsRow X0 T z v' (k + 1) (fl (fun i => cs i (t i)) k ++ cs k a)) (z4 : w2.heap.size ≤ w4.heap.size) (kb : ∀ b, b < w2.heap.size → some b ≠ v.ownBlock → w4.heap[b]? = w2.heap[b]?) (hat : v'.ownBlock = v.ownBlock ∨ ∃ b, v'.ownBlock = some b ∧ w2.heap.size ≤ b) :
    Grow X0 T z (k + 1) w4 v' cs El Fp (fun i => if i < k then t i else a) := by
  have z2 := hb2.size
  have vl := h.own.lt
  have nv : ∀ b, b < w2.heap.size → some b ≠ v.ownBlock → some b ≠ v'.ownBlock := fun b hb hne e => by
    rcases hat with h' | ⟨c, h', hc⟩
    · rw [h'] at e; exact hne e
    · rw [h'] at e; have := Option.some.inj e; omega
  have newv : ∀ b, w.heap.size ≤ b → some b ≠ v.ownBlock := fun b hb e => by have := (vl b e.symm).2; omega
  refine ⟨?_, fun i hi => ?_, fun i hi b hfb => ?_, fun i j hi hj hne b h1 h2 => ?_⟩
  · have e : fl (fun i => cs i (if i < k then t i else a)) (k + 1) = fl (fun i => cs i (t i)) k ++ cs k a := by
      rw [fl, fl_congr (d := fun i => cs i (t i)) (fun i hi => by simp [hi])]
      simp
    rw [e]; exact own4
  · rcases Nat.lt_or_eq_of_le (Nat.le_of_lt_succ hi) with h' | rfl
    · simp only [h', if_true]
      refine st w w4 i _ (h.el i h') (by omega) (fun b hfb hlt => ?_)
      rw [kb b (by omega) (h.fp i h' b hfb).2.2, hb2.block b hlt]
    · simp only [Nat.lt_irrefl, if_false]
      exact st w2 w4 i a ha (by omega) (fun b hfb hlt => kb b hlt (newv b (hf b hfb).1))
  · rcases Nat.lt_or_eq_of_le (Nat.le_of_lt_succ hi) with h' | rfl
    · simp only [h', if_true] at hfb
      obtain ⟨q1, q2, q3⟩ := h.fp i h' b hfb
      exact ⟨q1, by omega, nv b (by omega) q3⟩
    · simp only [Nat.lt_irrefl, if_false] at hfb
      obtain ⟨q1, q2⟩ := hf b hfb
      exact ⟨by omega, by omega, nv b q2 (newv b q1)⟩
  · by_cases ei : i < k
    · simp only [ei, if_true] at h1
      by_cases ej : j < k
      · simp only [ej, if_true] at h2
        exact h.dis i j ei ej hne b h1 h2
      · simp only [ej, if_false] at h2
        have := (h.fp i ei b h1).2.1
        have := (hf b h2).1
        omega
    · simp only [ei, if_false] at h1
      by_cases ej : j < k
      · simp only [ej, if_true] at h2
        have := (h.fp j ej b h2).2.1
        have := (hf b h1).1
        omega
      · omega

end Go.Proofs.Ytnodofbpogcheaa.Wf

/-
  WfLimits: what its loops keep.
-/
namespace Go.Proofs.Ytnodofbpogcheaa.Wf
open Go.RowKit View Rd Num Copy Go.Proofs.Ytnodofbpogcheaa.Mod Go.Proofs.Ytnodofbpogcheaa.Wl Go.Proofs.Ytnodofbpogcheaa.Chk Go.Proofs.Ytnodofbpogcheaa.Flo

set_option linter.unusedVariables false

structure MCell4 (w : World) (b : Nat) : Prop where
  c0 : w.cell? ⟨b, 0, none⟩ = some (.slice none 0 0)
  c1 : w.cell? ⟨b, 1, none⟩ = some (.slice none 0 0)
  c2 : w.cell? ⟨b, 2, none⟩ = some (.slice none 0 0)
  c3 : w.cell? ⟨b, 3, none⟩ = some (.slice none 0 0)

abbrev csC (n : Nat) (i : Nat) (a : Nat) : List Value := [.string ⟨#[103]⟩, .slice (some ⟨a, 0, none⟩) n n]
abbrev csL (i : Nat) (a : Nat) : List Value := [.string (nm 103 i), .slice (some ⟨a, 0, none⟩) 1 1]
abbrev elL (_ : Nat) (w : World) (_ : Nat) (a : Nat) : Prop := w.cell? ⟨a, 0, none⟩ = some (.int .i64 0)
abbrev fpL (a : Nat) (b : Nat) : Prop := b = a

theorem stabL (X : Nat) : Stable (elL X) fpL := fun w w' i a h hz hb => by
  show w'.cell? ⟨a, 0, none⟩ = _
  rw [World.cell?_of_block (w := w) (hb a rfl (World.block_lt_of_cell? _ _ h))]
  exact h

/-- One global of n cells. -/
abbrev elC (n : Nat) (_ : Nat) (w : World) (_ : Nat) (a : Nat) : Prop := ∀ i, i < n → w.cell? ⟨a, i, none⟩ = some (.int .i64 0)

theorem stabC (n X : Nat) : Stable (elC n X) fpL := fun w w' i a h hz hb => by
  intro j hj
  rw [World.cell?_of_block (w := w) (hb a rfl (World.block_lt_of_cell? _ _ (h j hj)))]
  exact h j hj

theorem cells_zero (w : World) (n : Nat) : ∀ i, i < n → (w.alloc (.cells (Array.replicate n (.int .i64 0)) 2)).cell? ⟨w.heap.size, i, none⟩ = some (.int .i64 0) := by
  intro i hi
  simp [hi]

theorem cells_ints {w : World} {a n : Nat} (h : ∀ i, i < n → w.cell? ⟨a, i, none⟩ = some (.int .i64 0)) (hn : n ≤ 1000) : Ints w ⟨some ⟨a, 0, none⟩, n, n⟩ (fun _ => 0) :=
  ⟨Nat.le_refl _, by show n ≤ _; omega, fun h => by simp at h, fun _ => ⟨a, 0, rfl, fun i hi => by rw [Nat.zero_add]; exact h i hi⟩⟩

theorem infoI64 : (Try.prog.info? 2).map (fun i => (i.zero, i.size, i.bytes)) = some (some (.int .i64 0), 1, 8) := by kernel_rfl
theorem underI64 : Try.prog.underlying 46 = some (.slice 2) := by kernel_rfl

theorem wp_make {P : Program} {o : Oper} {a : Act} {w w' : World} {v u1 u2 : Value} {t : TypeId} {l c : Operand} {K : Act → World → Prop} {Q : Exit → Act → World → Prop} {d : Option Tmp} (ho : o.op = .makeSlice t l c) (hd : o.dst = d) (hl : a.eval l = u1) (hc : a.eval c = u2) (hr : (Instr.makeSlice t u1 u2).run P w = .ok v w') (h : K (a.put d v) w') : o.wp P a w K Q := by
  subst hd
  unfold Oper.wp execOp
  simp only [ho, Sem.run_bind, Sem.run_pure, Result.andThen_ok, hl, hc, hr]
  exact h

theorem mk_run (n : Nat) (hn : n ≤ 1000) : ∀ wx : World, (Instr.makeSlice 46 (.int .i64 (n : Int)) (.int .i64 (n : Int))).run Try.prog wx = .ok (.slice (some ⟨wx.heap.size, 0, none⟩) n n) (wx.alloc (.cells (Array.replicate n (.int .i64 0)) 2)) := by
  intro wx
  obtain ⟨i0, hi, hz0, hz1, hz2⟩ := info_parts infoI64
  have h := run_make (P := Try.prog) wx 46 2 i0 (.int .i64 0) underI64 hi hz0 .i64 .i64 (n : Int) (n : Int) (by omega) (Int.le_refl _) (by rw [hz2]; omega) (by omega)
  simp only [Int.toNat_natCast] at h
  rw [h, hz1]
  have e : madeCells (Value.int .i64 0).cells (n * 1) = Array.replicate n (.int .i64 0) := by
    apply Array.ext
    · simp [madeCells]
    · intro j h1 h2
      have e1 : (Value.int IntKind.i64 0).cells.size = 1 := rfl
      simp only [madeCells, Array.getElem_map, Array.getElem_replicate, e1, Nat.mod_one]
      rfl
  rw [e]

/-- One function of five parameters. -/
abbrev csP (V : Nat) (i : Nat) (a : Nat) : List Value := [.string ⟨#[102]⟩, .bool false, .slice (some ⟨a, 0, none⟩) 5 5, .int .i64 0, .slice (some ⟨V + 1 + 1, 0, none⟩) 1 1]
abbrev elP (X : Nat) (w : World) (_ : Nat) (a : Nat) : Prop := w.ownsRow X 3 1 (.slice (some ⟨a, 0, none⟩) 5 5) 5 [.int .i64 1, .int .i64 1, .int .i64 1, .int .i64 1, .int .i64 1]

theorem stabP (X : Nat) : Stable (elP X) fpL := fun w w' i a h hz hb => by
  refine ⟨h.1, ?_⟩
  rcases h.2 with ⟨e, _⟩ | ⟨g, cap, cur, e, h1, h2, h3⟩
  · cases e
  · have e' : g = a := by simp only [Value.slice.injEq, Option.some.injEq, Addr.mk.injEq] at e; exact e.1.1.symm
    subst e'
    exact .inr ⟨g, cap, cur, e, h1, by rw [hb g rfl (Array.getElem?_eq_some_iff.1 h2).1]; exact h2, h3⟩

theorem own_five {X : Nat} (w : World) (hX : X ≤ w.heap.size) : (w.alloc (.cells #[.int .i64 1, .int .i64 1, .int .i64 1, .int .i64 1, .int .i64 1] 3)).drew.ownsRow X 3 1 (.slice (some ⟨w.heap.size, 0, none⟩) 5 5) 5 [.int .i64 1, .int .i64 1, .int .i64 1, .int .i64 1, .int .i64 1] :=
  ⟨rfl, .inr ⟨w.heap.size, 5, #[.int .i64 1, .int .i64 1, .int .i64 1, .int .i64 1, .int .i64 1], rfl, hX, heap_alloc_new w _, Nat.le_refl _, by decide, rfl, rfl⟩⟩

theorem own_ints {w : World} {X a c n : Nat} (h : w.ownsRow X 3 1 (.slice (some ⟨a, 0, none⟩) n c) n (List.replicate n (.int .i64 1))) (hn : n ≤ 1000) : Ints w ⟨some ⟨a, 0, none⟩, n, c⟩ (fun _ => 1) := by
  have hc : n ≤ c := by
    rcases h.2 with ⟨e, _⟩ | ⟨g, cap, cur, e, h1, h2, h3, h4⟩
    · cases e
    · simp only [Value.slice.injEq] at e; omega
  refine ⟨hc, by show n ≤ _; omega, fun e => by simp at e, fun _ => ⟨a, 0, rfl, fun i hi => ?_⟩⟩
  have hi' : i < n := hi
  rw [Nat.zero_add, h.cellAt i (by omega)]
  simp [hi']

end Go.Proofs.Ytnodofbpogcheaa.Wf
